/-
 TEXTS OF THE PROOF, one behind the other: DigSet, Seq, Aid, QueRow, DigFrame, OpenS, QueFrame, PacPure, PacFrame, Held, Blk, Rg, ChgMapP, ChgMap, CrcPure.
-/
import Derived.Test.YtfocooajnignbaaW04
import Derived.Test.YtfocooajnignbaaW01
import Derived.Laws.IdiomCopy
import Derived.Laws.AppendOwnNone
import Derived.Lib.AppendZerosOnto
import Derived.Lib.Overlaps
import Derived.Deep.RegionLaw
import Derived.Laws.Externs
import Derived.Lib.SliceRun
import Derived.Lib.Hide
import Derived.BigRegion
import Derived.Maps.OwnSet
import Derived.ProofKit
import Derived.OpenShut
import Derived.Lib.SmallJoins
import Derived.Deep.Slices
import Derived.Deep.Fields
import Derived.ChangeSame
import Derived.Test.YtfocooajnignbaaProg
import Derived.Deep.RegionHeld
import Derived.MapKept

set_option maxHeartbeats 12800000
set_option maxRecDepth 100000

namespace Go.Proofs.Ytfocooajnignbaa
section
open Go.RowKit

theorem OwnR.drew {w:World} {base:Nat} {v:Value} {t:List Row} (h:OwnR w base v t):OwnR w.drew base v t:=World.ownsRow.drew h

def chgAgg (c:Chg):Value:=.agg #[.string ⟨c.c.toArray⟩,.bool c.on,.int .i64 c.v.sh,.int .i64 c.v.pr,.int .i64 c.v.si,.string ⟨c.v.st.toArray⟩]

theorem six_cells (w:World) (a b c d e f:Value) (t:TypeId):(w.alloc (.cells #[a,b,c,d,e,f] t)).cell? ⟨w.heap.size,0,none⟩=some a∧(w.alloc (.cells #[a,b,c,d,e,f] t)).cell? ⟨w.heap.size,1,none⟩=some b∧(w.alloc (.cells #[a,b,c,d,e,f] t)).cell? ⟨w.heap.size,2,none⟩=some c∧(w.alloc (.cells #[a,b,c,d,e,f] t)).cell? ⟨w.heap.size,3,none⟩=some d∧(w.alloc (.cells #[a,b,c,d,e,f] t)).cell? ⟨w.heap.size,4,none⟩=some e∧(w.alloc (.cells #[a,b,c,d,e,f] t)).cell? ⟨w.heap.size,5,none⟩=some f :=
 ⟨by rw [World.cell?_alloc_at _ _ _ _ rfl]; rfl,by rw [World.cell?_alloc_at _ _ _ _ rfl]; rfl,by rw [World.cell?_alloc_at _ _ _ _ rfl]; rfl,by rw [World.cell?_alloc_at _ _ _ _ rfl]; rfl,by rw [World.cell?_alloc_at _ _ _ _ rfl]; rfl,by rw [World.cell?_alloc_at _ _ _ _ rfl]; rfl⟩
end
section
open Go.RowKit

def cellsS {α:Type} (vals:α→List Value) (t:List α):List Value:=(t.map vals).flatten

structure RowOK {α:Type} (P:Program) (vals:α→List Value) (sz:Nat) (zero:α) (T S:TypeId) (Z:Value) (bytes:Nat):Prop where
 len:∀ a,(vals a).length=sz
 one:∀ a,∀ u ∈ vals a,u.oneCell'=true
 pos:0 < sz
 small:sz≤100
 under:P.underlying S=some (.slice T)
 info:(P.info? T).map (fun i => (i.zero,i.size,i.bytes))=some (some Z,sz,bytes)
 zvals:Z.cells.toList=vals zero
 fits:bytes≤4096

section pure
variable {α:Type} {vals:α→List Value} {sz:Nat}

theorem cellsS_nil:cellsS vals []=[]:=rfl
theorem cellsS_cons (r:α) (t:List α):cellsS vals (r :: t)=vals r ++ cellsS vals t:=rfl
theorem cellsS_append (a b:List α):cellsS vals (a ++ b)=cellsS vals a ++ cellsS vals b:=by simp [cellsS]
theorem cellsS_one (r:α):cellsS vals [r]=vals r:=by simp [cellsS]

theorem cellsS_len (hl:∀ a,(vals a).length=sz):∀ t:List α,(cellsS vals t).length=t.length * sz
 | [] => by simp [cellsS]
 | r :: t => by rw [cellsS_cons,List.length_append,hl,cellsS_len hl t,List.length_cons,Nat.add_mul,Nat.one_mul,Nat.add_comm]

theorem cellsS_at (hl:∀ a,(vals a).length=sz) (zero:α):∀ (t:List α) (i j:Nat),i < t.length→j < sz→(cellsS vals t)[i * sz+j]?=(vals (t.getD i zero))[j]?
 | [],i,j,h,_ => by simp at h
 | r :: t,0,j,_,hj => by
  rw [cellsS_cons,Nat.zero_mul,Nat.zero_add,List.getElem?_append_left (by rw [hl]; exact hj)]
  rfl
 | r :: t,i+1,j,h,hj => by
  rw [cellsS_cons,List.getElem?_append_right (by rw [hl,Nat.add_mul]; omega),hl,show (i+1) * sz+j - sz=i * sz+j by rw [Nat.add_mul]; omega,cellsS_at hl zero t i j (by simpa using h) hj]
  rfl

theorem cellsS_single (ho:∀ a,∀ u ∈ vals a,u.oneCell'=true) (t:List α):∀ u ∈ cellsS vals t,u.oneCell'=true:=by
 intro u hu
 obtain⟨l,hl,hu⟩:=List.mem_flatten.1 hu
 obtain⟨r,_,rfl⟩:=List.mem_map.1 hl
 exact ho r u hu

theorem cellsS_take (hl:∀ a,(vals a).length=sz) (u:List α) (o:Nat):(cellsS vals u).take (o * sz)=cellsS vals (u.take o):=by
 have h:=cellsS_append (vals:=vals) (u.take o) (u.drop o)
 rw [List.take_append_drop] at h
 rw [h]
 by_cases ho:o≤u.length
 ·rw [List.take_left' (by rw [cellsS_len hl,List.length_take,Nat.min_eq_left ho])]
 ·have e1:u.drop o=[]:=List.drop_of_length_le (by omega)
  have e2:u.take o=u:=List.take_of_length_le (by omega)
  rw [e1,e2,cellsS_nil,List.append_nil,List.take_of_length_le (by rw [cellsS_len hl]; exact Nat.mul_le_mul_right _ (by omega))]

theorem cellsS_drop (hl:∀ a,(vals a).length=sz) (u:List α) (o:Nat):(cellsS vals u).drop (o * sz)=cellsS vals (u.drop o):=by
 have h:=cellsS_append (vals:=vals) (u.take o) (u.drop o)
 rw [List.take_append_drop] at h
 by_cases ho:o≤u.length
 ·rw [h,List.drop_left' (by rw [cellsS_len hl,List.length_take,Nat.min_eq_left ho])]
 ·have e1:u.drop o=[]:=List.drop_of_length_le (by omega)
  rw [e1,cellsS_nil,List.drop_of_length_le (by rw [cellsS_len hl]; exact Nat.mul_le_mul_right _ (by omega))]

def layS {β:Type} (u:List β) (o:Nat) (ms:List β):List β:=u.take o ++ (ms ++ u.drop (o+ms.length))

theorem layS_len {β:Type} {u:List β} {o:Nat} {ms:List β} (h:o+ms.length≤u.length):(layS u o ms).length=u.length:=by
 unfold layS
 simp
 omega

theorem layS_nil {β:Type} (u:List β) (o:Nat):layS u o []=u:=by simp [layS]

theorem layS_cons {β:Type} (u:List β) (o:Nat) (x:β) (r:List β) (h:o < u.length):layS (u.set o x) (o+1) r=layS u o (x :: r):=by
 unfold layS
 have h1:(u.set o x).take (o+1)=u.take o ++ [x]:=by
  rw [List.take_set,List.set_eq_take_append_cons_drop]
  rw [if_pos (by rw [List.length_take]; omega)]
  rw [List.take_take,List.drop_of_length_le (by rw [List.length_take]; omega),show min o (o+1)=o by omega]
 have h2:(u.set o x).drop (o+1+r.length)=u.drop (o+(x :: r).length):=by
  rw [List.drop_set,if_pos (by omega)]
  congr 1
  simp only [List.length_cons]
  omega
 rw [h1,h2]
 simp

theorem layS_one {β:Type} {u:List β} {i:Nat} (hi:i < u.length) (r:β):layS u i [r]=u.set i r:=by
 unfold layS
 rw [List.set_eq_take_append_cons_drop,if_pos hi]
 rfl

theorem cellsS_lay (hl:∀ a,(vals a).length=sz) (u:List α) (o:Nat) (ms:List α):layS (cellsS vals u) (o * sz) (cellsS vals ms)=cellsS vals (layS u o ms):=by
 unfold layS
 rw [cellsS_append,cellsS_append,cellsS_take hl,cellsS_len hl,← Nat.add_mul,cellsS_drop hl]

def putS {β:Type} (t:List β) (i:Nat) (r:β):List β:=t.take i ++ ([r] ++ t.drop i)

end pure

theorem own_setCellsS {e size base g n cap:Nat}:∀ (vs:List Value) (o:Nat) (w:World) (xs:List Value),w.ownsRow base e size (.slice (some ⟨g,0,none⟩) n cap) n xs→o+vs.length≤xs.length →
  (w.setCells g o vs).ownsRow base e size (.slice (some ⟨g,0,none⟩) n cap) n (layS xs o vs)
 | [],o,w,xs,h,_ => by rw [layS_nil]; exact h
 | v :: r,o,w,xs,h,hl => by
  rw [World.setCells,← layS_cons xs o v r (by simp at hl; omega)]
  exact own_setCellsS r (o+1) _ _ (h.stored o v).1 (by simp at hl ⊢; omega)

section rows
variable {α:Type} {P:Program} {vals:α→List Value} {sz:Nat} {zero:α} {T S:TypeId} {Z:Value} {bytes:Nat}

def OwnS (vals:α→List Value) (sz:Nat) (T:TypeId) (w:World) (base:Nat) (v:Value) (t:List α):Prop:=w.ownsRow base T sz v t.length (cellsS vals t)

def OwnCS (sz:Nat) (T:TypeId) (w:World) (base g n cap:Nat) (xs:List Value):Prop:=w.ownsRow base T sz (.slice (some ⟨g,0,none⟩) n cap) n xs

def SrcS (vals:α→List Value) (w:World) (ad:Addr) (ms:List α):Prop:=∀ j u,(cellsS vals ms)[j]?=some u→w.cell? (ad.add j)=some u

def CellsAt (w:World) (b o:Nat) (vs:List Value):Prop:=∀ j u,vs[j]?=some u→w.cell? ⟨b,o+j,none⟩=some u

theorem CellsAt.later {w w':World} {b o:Nat} {vs:List Value} (h:CellsAt w b o vs) (hb:Below w.heap.size w w'):CellsAt w' b o vs:=by
 intro j u hu
 have:=h j u hu
 rw [hb.cell (World.block_lt_of_cell? w _ this)]
 exact this

def RdS (vals:α→List Value) (sz:Nat) (zero:α) (w:World) (v:Value) (l:List α):Prop :=
 ∃ a cap,v=.slice a l.length cap∧l.length≤cap∧cap≤maxLen∧(a=none→cap=0) ∧
  (l=[]∨∃ b off,a=some ⟨b,off,none⟩∧b < w.heap.size∧∀ i,i < l.length→CellsAt w b (off+i * sz) (vals (l.getD i zero)))

theorem RdS.later {w w':World} {v:Value} {l:List α} (h:RdS vals sz zero w v l) (hb:Below w.heap.size w w'):RdS vals sz zero w' v l:=by
 obtain⟨a,cap,h1,h2,h3,h4,h5⟩:=h
 refine ⟨a,cap,h1,h2,h3,h4,?_⟩
 rcases h5 with h5 | ⟨b,off,e,hlt,hc⟩
 ·exact .inl h5
 ·exact .inr ⟨b,off,e,Nat.lt_of_lt_of_le hlt hb.size,fun i hi => (hc i hi).later hb⟩

theorem rdS_nil (w:World):RdS vals sz zero w (.slice none 0 0) []:=⟨none,0,rfl,by simp,by simp,fun _ => rfl,.inl rfl⟩

theorem RdS.row {w wr:World} {a:Option Addr} {n cap:Nat} {l:List α} (h:RdS vals sz zero w (.slice a n cap) l) (hb:Below w.heap.size w wr) (k:Nat) (hk:k < l.length) :
  ∃ b off,a=some ⟨b,off,none⟩∧CellsAt wr b (off+k * sz) (vals (l.getD k zero)):=by
 obtain⟨a',cap',e,_,_,_,h⟩:=h.later hb
 simp only [Value.slice.injEq] at e
 rcases h with h | ⟨b,off,e',_,hc⟩
 ·rw [h] at hk; simp at hk
 ·exact⟨b,off,e.1.trans e',hc k hk⟩

theorem RdS.open' {w:World} {v:Value} {l:List α} (h:RdS vals sz zero w v l):∃ a cap,v=.slice a l.length cap∧l.length≤9223372036854775807:=by
 obtain⟨a,cap,e,h1,h2,_⟩:=h
 unfold maxLen at h2
 exact⟨a,cap,e,by omega⟩

theorem OwnS.alloc {w:World} {base:Nat} {v:Value} {t:List α} (h:OwnS vals sz T w base v t) (o:Obj):OwnS vals sz T (w.alloc o) base v t:=World.ownsRow.alloc h o

theorem OwnS.drew {w:World} {base:Nat} {v:Value} {t:List α} (h:OwnS vals sz T w base v t):OwnS vals sz T w.drew base v t:=World.ownsRow.drew h

theorem ownS_nil (w:World) (base:Nat):OwnS vals sz T w base (.slice none 0 0) []:=World.ownsRow_nil w base _ _

theorem ownS_made (w:World):OwnS vals sz T (w.alloc (.cells #[] T)) w.heap.size (.slice (some ⟨w.heap.size,0,none⟩) 0 0) [] :=
 World.ownsRow_made w #[] 0 (Nat.le_refl _) (by decide) (by simp)

theorem OwnS.later {w w':World} {base:Nat} {v:Value} {t:List α} (h:OwnS vals sz T w base v t) (hb:Below w.heap.size w w'):OwnS vals sz T w' base v t:=by
 refine ⟨h.1,?_⟩
 rcases h.2 with h' | ⟨g,cap,cur,h1,h2,h3,h4⟩
 ·exact .inl h'
 ·exact .inr ⟨g,cap,cur,h1,h2,by rw [hb.block g (Array.getElem?_eq_some_iff.1 h3).1]; exact h3,h4⟩

theorem ownS_low {w:World} {base base':Nat} {v:Value} {t:List α} (h:OwnS vals sz T w base v t) (hb:base'≤base):OwnS vals sz T w base' v t:=by
 refine ⟨h.1,?_⟩
 rcases h.2 with h' | ⟨g,cap,cur,h1,h2,h3⟩
 ·exact .inl h'
 ·exact .inr ⟨g,cap,cur,h1,by omega,h3⟩

theorem ltS {i n j sz:Nat} (hi:i < n) (hj:j < sz):i * sz+j < n * sz:=by
 have:=Nat.mul_le_mul_right sz (show i+1≤n by omega)
 rw [Nat.add_mul,Nat.one_mul] at this
 omega

theorem OwnS.rd (D:RowOK P vals sz zero T S Z bytes) {w:World} {base:Nat} {v:Value} {t:List α} (h:OwnS vals sz T w base v t):RdS vals sz zero w v t:=by
 rcases h with ⟨_,⟨rfl,h0⟩ | ⟨g,cap,cur,rfl,hb,hg,hn,hc,hsz,htk⟩⟩
 ·obtain rfl:t=[]:=List.length_eq_zero_iff.1 h0
  exact rdS_nil w
 ·refine ⟨some ⟨g,0,none⟩,cap,rfl,hn,hc,(fun e => by cases e),.inr ⟨g,0,rfl,(Array.getElem?_eq_some_iff.1 hg).1,fun i hi => ?_⟩⟩
  intro j u hu
  have hj:j < sz:=by have:=(List.getElem?_eq_some_iff.1 hu).1; rwa [D.len] at this
  rw [Nat.zero_add,cell_of_row w g (i * sz+j) cur _ (0,0) hg]
  have h1:cur.toList[i * sz+j]?=(cellsS vals t)[i * sz+j]?:=by
   rw [← htk,List.getElem?_take,if_pos (ltS hi hj)]
  rw [← hu,← cellsS_at D.len zero t i j hi hj,← h1]
  simp

theorem OwnS.head {w:World} {base g n cap:Nat} {u:List α} (h:OwnS vals sz T w base (.slice (some ⟨g,0,none⟩) n cap) u):n=u.length∧base≤g∧g < w.heap.size∧n≤cap∧cap≤maxLen∧∃ cur:Array Value,w.heap[g]?=some (.cells cur T (0,0))∧cur.size=cap * sz:=by
 rcases h with ⟨_,⟨h',_⟩ | ⟨g',cap',cur,h',hb,hg,hnc,hcm,hcs,_⟩⟩
 ·simp at h'
 ·simp only [Value.slice.injEq,Option.some.injEq,Addr.mk.injEq,and_true] at h'
  obtain⟨rfl,h2,rfl⟩:=h'
  exact⟨h2,hb,(Array.getElem?_eq_some_iff.1 hg).1,by omega,hcm,cur,hg,hcs⟩

theorem OwnS.cellAt (_D:RowOK P vals sz zero T S Z bytes) {w:World} {base g n cap:Nat} {u:List α} (h:OwnS vals sz T w base (.slice (some ⟨g,0,none⟩) n cap) u) (j:Nat) (hj:j < u.length * sz):w.cell? ⟨g,j,none⟩=(cellsS vals u)[j]?:=by
 have hn:=h.head.1
 subst hn
 exact World.ownsRow.cellAt h j hj

theorem OwnS.frozenAt {w:World} {base g n cap:Nat} {u:List α} (h:OwnS vals sz T w base (.slice (some ⟨g,0,none⟩) n cap) u) (j:Nat):w.frozen? ⟨g,j,none⟩=false:=by
 have hn:=h.head.1
 subst hn
 exact World.ownsRow.frozenAt h j

theorem OwnS.row (D:RowOK P vals sz zero T S Z bytes) {w:World} {base g n cap:Nat} {u:List α} (h:OwnS vals sz T w base (.slice (some ⟨g,0,none⟩) n cap) u) {k:Nat} (hk:k < u.length):CellsAt w g (k * sz) (vals (u.getD k zero)):=by
 intro j x hx
 have hj:j < sz:=by have:=(List.getElem?_eq_some_iff.1 hx).1; rwa [D.len] at this
 rw [h.cellAt D _ (ltS hk hj),cellsS_at D.len zero u k j hk hj,hx]

theorem ownS_lay (D:RowOK P vals sz zero T S Z bytes) {w:World} {base g n cap:Nat} {u:List α} (h:OwnS vals sz T w base (.slice (some ⟨g,0,none⟩) n cap) u) (o:Nat) (ms:List α) (ho:o+ms.length≤u.length) :
  OwnS vals sz T (w.setCells g (o * sz) (cellsS vals ms)) base (.slice (some ⟨g,0,none⟩) n cap) (layS u o ms):=by
 have hn:=h.head.1
 subst hn
 unfold OwnS at h ⊢
 rw [layS_len ho,← cellsS_lay D.len]
 exact own_setCellsS _ _ _ _ h (by rw [cellsS_len D.len,cellsS_len D.len,← Nat.add_mul]; exact Nat.mul_le_mul_right _ ho)

theorem ownS_set (D:RowOK P vals sz zero T S Z bytes) {w:World} {base g n cap:Nat} {u:List α} (h:OwnS vals sz T w base (.slice (some ⟨g,0,none⟩) n cap) u) {i:Nat} (hi:i < u.length) (r:α) :
  OwnS vals sz T (w.setCells g (i * sz) (vals r)) base (.slice (some ⟨g,0,none⟩) n cap) (u.set i r):=by
 have:=ownS_lay D h i [r] (by simp; omega)
 rwa [cellsS_one,layS_one hi] at this

theorem OwnS.src (D:RowOK P vals sz zero T S Z bytes) {w:World} {base g n cap:Nat} {u:List α} (h:OwnS vals sz T w base (.slice (some ⟨g,0,none⟩) n cap) u) (o k:Nat) (hk:o+k≤u.length):SrcS vals w ⟨g,o * sz,none⟩ ((u.drop o).take k):=by
 intro j x hx
 have hj:=(List.getElem?_eq_some_iff.1 hx).1
 rw [cellsS_len D.len,List.length_take,List.length_drop] at hj
 have h1:min k (u.length - o) * sz≤k * sz:=Nat.mul_le_mul_right _ (Nat.min_le_left _ _)
 have h2:o * sz+k * sz≤u.length * sz:=by rw [← Nat.add_mul]; exact Nat.mul_le_mul_right _ hk
 rw [Addr.add_lit,h.cellAt D _ (by omega),← hx]
 rw [← cellsS_take D.len,← cellsS_drop D.len,List.getElem?_take,if_pos (by omega),List.getElem?_drop]

theorem RdS.src (D:RowOK P vals sz zero T S Z bytes) {w:World} {ad:Addr} {n cap:Nat} {t:List α} (h:RdS vals sz zero w (.slice (some ad) n cap) t):SrcS vals w ad t:=by
 obtain⟨a',cap',e,_,_,_,h⟩:=h
 simp only [Value.slice.injEq] at e
 intro j u hu
 have hj:=(List.getElem?_eq_some_iff.1 hu).1
 rw [cellsS_len D.len] at hj
 rcases h with h | ⟨b,off,e',_,hc⟩
 ·rw [h] at hj; simp at hj
 ·have e2:=e.1.trans e'
  injection e2 with e2
  subst e2
  have hm:j % sz < sz:=Nat.mod_lt _ D.pos
  have hd:j=j / sz * sz+j % sz:=by have:=Nat.div_add_mod j sz; rw [Nat.mul_comm] at this; omega
  have hq:j / sz < t.length:=(Nat.div_lt_iff_lt_mul D.pos).2 hj
  rw [hd,cellsS_at D.len zero t (j / sz) (j % sz) hq hm] at hu
  have:=hc (j / sz) hq (j % sz) u hu
  rw [Addr.add_lit,hd,← Nat.add_assoc]
  exact this

theorem wpList_append_S (D:RowOK P vals sz zero T S Z bytes) {w:World} {ops:Array Oper} {rest:List Oper} {o:Oper} {a:Act} {Q:Exit→Act→World→Prop}
  (hgd:o.guard=none) (s x:Operand) (ho:o.op=.call { callee:=.builtin .append,args:=#[s,x],argTypes:=#[S,S] })
  (base:Nat) (v:Value) (t:List α) (hs:a.eval s=v) (hown:OwnS vals sz T w base v t)
  (ao:Option Addr) (m c:Nat) (ms:List α) (hx:a.eval x=.slice ao m c) (hm:m=ms.length) (hnone:ao=none→c=0∧ms=[])
  (hsome:∀ ad,ao=some ad→SrcS vals w ad ms)
  (hlen:t.length+ms.length < 4294967296) (hbase:base≤w.heap.size)
  (h:∀ v' w',OwnS vals sz T w' base v' (t ++ ms)→Below base w w'→wpList P ops Q rest (a.put o.dst v') w') :
  wpList P ops Q (o :: rest) a w:=by
 obtain⟨i,hi,hz,hsize,hby⟩:=info_parts D.info
 cases ao with
 | none =>
  obtain⟨rfl,rfl⟩:=hnone rfl
  simp only [List.length_nil] at hm
  subst hm
  exact wpList_append_own_none hgd s x S ho base T i sz D.under hi v t.length (cellsS vals t) hs hown hx (h v w (by simpa using hown) (Below.refl _ _))
 | some ad =>
  subst hm
  have hzl:Z.cells.size=sz:=by have:=congrArg List.length D.zvals; rwa [Array.length_toList,D.len] at this
  refine wpList_append_own _ hgd s x S ho base T i _ sz bytes D.under hi hz hsize hby hzl D.pos v t.length (cellsS vals t) hs hown ad ms.length c (cellsS vals ms) hx (cellsS_len D.len ms) (hsome ad rfl) (cellsS_single D.one ms)
   (by unfold maxLen; omega) (Nat.le_trans (Nat.mul_le_mul (show t.length+ms.length≤4294967296 by omega) D.fits) (by decide)) hbase ?_
  intro v' w' hown' hgrow _
  refine h v' w' ?_ ((Below.refl base w).grown hgrow hbase (fun k hk => (World.ownsRow.lt hown k hk).1))
  unfold OwnS
  rw [cellsS_append,List.length_append]
  exact hown'

theorem srcS_new {w:World} {r:α} {cs:Array Value} (hcs:cs.toList=vals r) {e:TypeId} {B:Nat} (hB:B=w.heap.size):∀ ad,some (⟨B,0,none⟩ : Addr)=some ad→SrcS vals (w.alloc (.cells cs e)) ad [r]:=by
 intro ad had j u hu
 subst hB
 obtain rfl:=Option.some.inj had
 rw [cellsS_one,← hcs] at hu
 rw [Addr.add_lit,Nat.zero_add,World.cell?_alloc_at _ _ _ _ rfl,← hu]
 simp

theorem OwnCS.drew {w:World} {base g n cap:Nat} {xs:List Value} (h:OwnCS sz T w base g n cap xs):OwnCS sz T w.drew base g n cap xs:=World.ownsRow.drew h

theorem OwnCS.rows {w:World} {base g cap n:Nat} {t:List α} (h:OwnCS sz T w base g n cap (cellsS vals t)) (hn:n=t.length):OwnS vals sz T w base (.slice (some ⟨g,0,none⟩) n cap) t:=by
 subst hn
 exact h

def LoneS (vals:α→List Value) (T:TypeId) (w:World) (B:Nat) (r:α):Prop:=∃ cs:Array Value,cs.toList=vals r∧w.heap[B]?=some (.cells cs T (0,0))

theorem LoneS.later {w w':World} {B:Nat} {r:α} (h:LoneS vals T w B r) (hb:Below w.heap.size w w'):LoneS vals T w' B r:=by
 obtain⟨cs,h1,h2⟩:=h
 exact⟨cs,h1,(hb.block B (Array.getElem?_eq_some_iff.1 h2).1).trans h2⟩

theorem LoneS.lt {w:World} {B:Nat} {r:α} (h:LoneS vals T w B r):B < w.heap.size:=by
 obtain⟨cs,h1,h2⟩:=h
 exact (Array.getElem?_eq_some_iff.1 h2).1

theorem LoneS.src {w:World} {B:Nat} {r:α} (h:LoneS vals T w B r):SrcS vals w ⟨B,0,none⟩ [r]:=by
 obtain⟨cs,h1,h2⟩:=h
 intro j u hu
 rw [cellsS_one,← h1] at hu
 rw [Addr.add_lit,Nat.zero_add,cell_of_row w B j _ _ (0,0) h2,← hu]
 simp

theorem LoneS.free {w:World} {B:Nat} {r:α} (h:LoneS vals T w B r) (j:Nat):w.frozen? ⟨B,j,none⟩=false:=by
 obtain⟨cs,h1,h2⟩:=h
 exact frozen_of_row w B j _ _ h2

theorem eqlS_nil_some (D:RowOK P vals sz zero T S Z bytes) (w:World) (x:Addr) (n c:Nat):(binOp .eql S (.slice (some x) n c) (.slice none 0 0)).run P w=.ok (.bool false) w:=by
 rw [Lib.run_eql_slice_nil w _ _ _ _ _ _ _ D.under]
 rfl

theorem eqlS_nil_nil (D:RowOK P vals sz zero T S Z bytes) (w:World) (n c:Nat):(binOp .eql S (.slice none n c) (.slice none 0 0)).run P w=.ok (.bool true) w:=by
 rw [Lib.run_eql_slice_nil w _ _ _ _ _ _ _ D.under]
 rfl

end rows
end
section
open Go.RowKit

theorem below2Z {w a b:World} (h1:Below w.heap.size w a) (h2:Below a.heap.size a b):Below w.heap.size w b:=h1.trans (h2.mono h1.size)

theorem bl_allocZ {w a:World} (h:Below w.heap.size w a) (o:Obj):Below w.heap.size w (a.alloc o):=h.alloc h.size o

theorem bl_newZ (w:World) (o:Obj):Below w.heap.size w (w.alloc o):=(Below.refl _ _).alloc (Nat.le_refl _) o

theorem cellLaterZ {w w':World} {a:Addr} {v:Value} (h:w.cell? a=some v) (hb:Below w.heap.size w w'):w'.cell? a=some v :=
 (hb.cell (World.block_lt_of_cell? w _ h)).trans h

theorem cellsAt_made {w:World} {cs:Array Value} {vs:List Value} (h:cs.toList=vs) (T:TypeId) {B:Nat} (hB:B=w.heap.size):CellsAt (w.alloc (.cells cs T)) B 0 vs:=by
 subst hB
 intro j u hu
 rw [Nat.zero_add,World.cell?_alloc_at _ _ _ _ rfl,← hu,← h]
 simp

theorem freeAt_made {w:World} {cs:Array Value} (T:TypeId):∀ i,(w.alloc (.cells cs T)).frozen? ⟨w.heap.size,i,none⟩=false:=fun i => by simp
end
section
open Go.RowKit

theorem chgOK:RowOK Try.prog chgVals 6 Chg.zero 42 24 (.agg #[.string ⟨#[]⟩,.bool false,.int .i64 0,.int .i64 0,.int .i64 0,.string ⟨#[]⟩]) 64 where
 len _:=rfl
 one a u hu:=by
  simp only [chgVals,List.mem_cons,List.not_mem_nil,or_false] at hu
  rcases hu with rfl | rfl | rfl | rfl | rfl | rfl <;> rfl
 pos:=by decide
 small:=by decide
 under:=Try.underlying24
 info:=Try.infoChange
 zvals:=rfl
 fits:=by decide

theorem Chgs.rdS {w:World} {v:Value} {t:List Chg} (h:Chgs w v t):RdS chgVals 6 Chg.zero w v t:=by
 obtain⟨a,cap,h1,h2,h3,h4,h5⟩:=h
 refine ⟨a,cap,h1,h2,h3,h4,?_⟩
 rcases h5 with h5 | ⟨b,off,e,hlt,hc⟩
 ·exact .inl h5
 ·refine .inr ⟨b,off,e,hlt,fun i hi => ?_⟩
  obtain⟨c0,c1,c2,c3,c4,c5⟩:=hc i hi
  intro j u hu
  unfold chgVals at hu
  match j,hu with
  | 0,hu => simp only [List.getElem?_cons_zero,Option.some.injEq] at hu; subst hu; exact c0
  | 1,hu => simp only [List.getElem?_cons_succ,List.getElem?_cons_zero,Option.some.injEq] at hu; subst hu; exact c1
  | 2,hu => simp only [List.getElem?_cons_succ,List.getElem?_cons_zero,Option.some.injEq] at hu; subst hu; exact c2
  | 3,hu => simp only [List.getElem?_cons_succ,List.getElem?_cons_zero,Option.some.injEq] at hu; subst hu; exact c3
  | 4,hu => simp only [List.getElem?_cons_succ,List.getElem?_cons_zero,Option.some.injEq] at hu; subst hu; exact c4
  | 5,hu => simp only [List.getElem?_cons_succ,List.getElem?_cons_zero,Option.some.injEq] at hu; subst hu; exact c5
  | j+6,hu => simp at hu

theorem chgs_of {w:World} {v:Value} {t:List Chg} (h:RdS chgVals 6 Chg.zero w v t):Chgs w v t:=by
 obtain⟨a,cap,h1,h2,h3,h4,h5⟩:=h
 refine ⟨a,cap,h1,h2,h3,h4,?_⟩
 rcases h5 with h5 | ⟨b,off,e,hlt,hc⟩
 ·exact .inl h5
 ·exact .inr ⟨b,off,e,hlt,fun i hi => cells6_of (hc i hi)⟩

abbrev OwnQ (w:World) (base:Nat) (v:Value) (l:List Chg):Prop:=OwnS chgVals 6 42 w base v l
theorem OwnQ.chgs {w:World} {base:Nat} {v:Value} {l:List Chg} (h:OwnQ w base v l):Chgs w v l:=chgs_of (OwnS.rd chgOK h)

def ShortC (l:List Chg):Prop:=∀ c ∈ l,c.c.length≤4294967296∧c.v.st.length≤4294967296
theorem ShortC.get {l:List Chg} (h:ShortC l) {k:Nat} (hk:k < l.length):(l.getD k Chg.zero).c.length≤4294967296∧(l.getD k Chg.zero).v.st.length≤4294967296:=by
 rw [List.getD_eq_getElem?_getD,List.getElem?_eq_getElem hk]
 exact h _ (List.getElem_mem hk)

theorem contactOf_any (c st:List UInt8) (on:Bool) (a b d:Int) (w:World) :
  Calls Try.prog 40 #[.agg #[.string ⟨c.toArray⟩,.bool on,.int .i64 a,.int .i64 b,.int .i64 d,.string ⟨st.toArray⟩]] w fun e w' => e=.returned (.string ⟨c.toArray⟩)∧Below w.heap.size w w':=by
 go_enter Try.func40,Try.ntmps40
 go_wp2_with fail
 go_ret
 exact⟨rfl,(Below.refl _ _).alloc (Nat.le_refl _) _⟩

theorem quplace_yes {w:World} {v:Value} {l:List Chg} (hv:Chgs w v l) (key:List UInt8) (hh:quHas l key=true) :
  Calls Try.prog 39 #[v,.string ⟨key.toArray⟩,.func (.func 40) #[] #[]] w fun e w' => e=.returned (.tuple #[.int .i64 (quAt l key:Nat),.bool true])∧Below w.heap.size w w':=by
 have HH:=hZq hh
 obtain⟨hlt0,hat0⟩:=quAt_is hh
 have HLT:=hZq hlt0
 have HAT:Hid (∀ i,i < quAt l key→¬ (l.getD i Chg.zero).c=key):=hZq fun i hi => quAt_not hi
 have HIS:Hid ((l.getD (quAt l key) Chg.zero).c=key):=hZq hat0
 clear hlt0 hat0
 obtain⟨m,hm0⟩ : ∃ m,quAt l key=m:=⟨_,rfl⟩
 rw [hm0] at HLT HAT HIS ⊢
 clear hm0
 have HV:=hZq hv
 obtain⟨ao,cap,rfl,hmx⟩:=hv.open'
 clear hv hh
 go_enter Try.func39,Try.ntmps39
 go_wp2_with fail
 go_loopw [12] (fun i wr => ∃ k:Nat,k≤m∧i=.int .i64 k∧Hid (Below w.heap.size w wr)) (fun i _ => m - (intOf i).toNat)
 case atStart => exact⟨0,by omega,rfl,Below.refl _ _⟩
 case round =>
  obtain⟨k,hk,rfl,HN⟩:=hrel
  have hlt:k < l.length:=Nat.lt_of_le_of_lt hk HLT.out
  obtain⟨b,off,rfl,h0,h1,h2,h3,h4,h5⟩:=HV.out.row HN.out k hlt
  obtain⟨⟨c,o,⟨x,y,z,st⟩⟩,hr⟩ : ∃ r,l.getD k Chg.zero=r:=⟨_,rfl⟩
  rw [hr] at h0 h1 h2 h3 h4 h5
  simp only at h0 h1 h2 h3 h4 h5
  by_cases hkm:k=m
  ·subst hkm
   have ce:c=key:=by have:=HIS.out; rw [hr] at this; exact this
   have t1:(c == key)=true:=by rw [beq_iff_eq]; exact ce
   clear ce hr
   go_wp2_with fail
   refine (contactOf_any _ _ _ _ _ _ _).mono ?_
   rintro e w2 ⟨rfl,b2⟩
   have HN2:=hZq ((below2Z HN.out (bl_newZ wr (.cells #[.string ⟨c.toArray⟩,.bool o,.int .i64 x,.int .i64 y,.int .i64 z,.string ⟨st.toArray⟩] 42))).trans (b2.mono (Nat.le_trans HN.out.size (by simp))))
   clear b2
   go_wp2_with fail
   go_ret2
   exact⟨rfl,HN2.out⟩
  ·have hkl:k < m:=by omega
   have ce:¬ c=key:=by have:=HAT.out k hkl; rw [hr] at this; exact this
   have t1:(c == key)=false:=by rw [beq_eq_false_iff_ne]; exact ce
   clear ce hr
   go_wp2_with fail
   refine (contactOf_any _ _ _ _ _ _ _).mono ?_
   rintro e w2 ⟨rfl,b2⟩
   have HN2:=hZq ((below2Z HN.out (bl_newZ wr (.cells #[.string ⟨c.toArray⟩,.bool o,.int .i64 x,.int .i64 y,.int .i64 z,.string ⟨st.toArray⟩] 42))).trans (b2.mono (Nat.le_trans HN.out.size (by simp))))
   clear b2
   go_wp2_with fail
   go_roundw
   case rel => exact⟨k+1,by omega,by go_num,HN2⟩
   case measure => simp [intOf]; omega

theorem quplace_no {w:World} {v:Value} {l:List Chg} (hv:Chgs w v l) (key:List UInt8) (hh:quHas l key=false) :
  Calls Try.prog 39 #[v,.string ⟨key.toArray⟩,.func (.func 40) #[] #[]] w fun e w' => e=.returned (.tuple #[.int .i64 0,.bool false])∧Below w.heap.size w w':=by
 have HH:=hZq hh
 have HNO:Hid (∀ i,i < l.length→¬ (l.getD i Chg.zero).c=key):=hZq fun i hi => by
  rw [List.getD_eq_getElem?_getD,List.getElem?_eq_getElem hi]
  exact quHas_no hh _ (List.getElem_mem hi)
 have HV:=hZq hv
 obtain⟨ao,cap,rfl,hmx⟩:=hv.open'
 clear hv hh
 go_enter Try.func39,Try.ntmps39
 go_wp2_with fail
 go_loopw [12] (fun i wr => ∃ k:Nat,k≤l.length∧i=.int .i64 k∧Hid (Below w.heap.size w wr)) (fun i _ => l.length - (intOf i).toNat)
 case atStart => exact⟨0,by omega,rfl,Below.refl _ _⟩
 case round =>
  obtain⟨k,hk,rfl,HN⟩:=hrel
  by_cases hlt:k < l.length
  ·obtain⟨b,off,rfl,h0,h1,h2,h3,h4,h5⟩:=HV.out.row HN.out k hlt
   obtain⟨⟨c,o,⟨x,y,z,st⟩⟩,hr⟩ : ∃ r,l.getD k Chg.zero=r:=⟨_,rfl⟩
   rw [hr] at h0 h1 h2 h3 h4 h5
   simp only at h0 h1 h2 h3 h4 h5
   have ce:¬ c=key:=by have:=HNO.out k hlt; rw [hr] at this; exact this
   have t1:(c == key)=false:=by rw [beq_eq_false_iff_ne]; exact ce
   clear ce hr
   go_wp2_with fail
   refine (contactOf_any _ _ _ _ _ _ _).mono ?_
   rintro e w2 ⟨rfl,b2⟩
   have HN2:=hZq ((below2Z HN.out (bl_newZ wr (.cells #[.string ⟨c.toArray⟩,.bool o,.int .i64 x,.int .i64 y,.int .i64 z,.string ⟨st.toArray⟩] 42))).trans (b2.mono (Nat.le_trans HN.out.size (by simp))))
   clear b2
   go_wp2_with fail
   go_roundw
   case rel => exact⟨k+1,by omega,by go_num,HN2⟩
   case measure => simp [intOf]; omega
  ·obtain rfl:k=l.length:=by omega
   go_wp2_with fail
   go_ret2
   exact⟨rfl,HN.out⟩
end
section
open Go.ChangeShapes Go.WideShapes Go.ChangeAt Go.RowKit Go.Deep

section
variable {H:Type} {enc:TypeId × Value→H} {w:World} {base:Nat} {spare:Nat→Bool} {held:Bool}

theorem trod_int1 {fuel:Nat} {cs:List Value} {x:DataW H × List MemPlace} (h:DataW.trod enc Try.prog w base spare held fuel 3 cs=some x):∃ z,cs=[.int .i64 z]:=by
 obtain⟨z,e,_,_⟩:=DataW.trod_int Try.underlying3 h
 exact⟨z,e⟩

theorem trod_text {fuel:Nat} {cs:List Value} {x:DataW H × List MemPlace} (h:DataW.trod enc Try.prog w base spare held fuel 9 cs=some x):∃ l:List UInt8,cs=[.string ⟨l.toArray⟩]∧l.length≤maxLen:=by
 obtain⟨s,e,_,ws⟩:=DataW.trod_string Try.underlying9 h
 exact⟨s.data.toList,by rw [e],Nat.le_trans (Nat.le_of_eq (Array.length_toList (xs:=s.data))) ws⟩

theorem trod_truth {fuel:Nat} {cs:List Value} {x:DataW H × List MemPlace} (h:DataW.trod enc Try.prog w base spare held fuel 4 cs=some x):∃ b,cs=[.bool b]:=by
 obtain⟨b,e,_⟩:=DataW.trod_bool Try.underlying4 h
 exact⟨b,e⟩

theorem list4 {α:Type} {l:List α} (h:l.length=4):∃ a b c d,l=[a,b,c,d]:=by
 match l,h with
 | [a,b,c,d],_ => exact⟨a,b,c,d,rfl⟩
theorem list6 {α:Type} {l:List α} (h:l.length=6):∃ a b c d e f,l=[a,b,c,d,e,f]:=by
 match l,h with
 | [a,b,c,d,e,f],_ => exact⟨a,b,c,d,e,f,rfl⟩

theorem trod_value {fuel:Nat} {cs:List Value} {x:DataW H × List MemPlace} (h:DataW.trod enc Try.prog w base spare held fuel 40 cs=some x) :
  ∃ v:Val,cs=[.int .i64 v.sh,.int .i64 v.pr,.int .i64 v.si,.string ⟨v.st.toArray⟩]∧v.st.length≤maxLen:=by
 obtain⟨xs,n,_,_,hl,hx,hf⟩:=DataW.trod_struct Try.underlying40 h
 have c35:Try.prog.cellsOf 40=4:=by kernel_rfl
 have c3:Try.prog.cellsOf 3=1:=by kernel_rfl
 have c9:Try.prog.cellsOf 9=1:=by kernel_rfl
 rw [c35] at hl
 obtain⟨a,b,c,d,rfl⟩:=list4 hl
 have get:∀ i,i < 4→xs[i]?=some (xs.getD i (.nil,[])):=fun i hi => by
  have:i < xs.length:=by rw [hx]; exact hi
  simp [List.getD,List.getElem?_eq_getElem this]
 have f0:DataW.trod enc Try.prog w base spare held n 3 (([a,b,c,d].drop 0).take (Try.prog.cellsOf 3))=some (xs.getD 0 (.nil,[])):=(hf 0 _ rfl).trans (get 0 (by omega))
 have f1:DataW.trod enc Try.prog w base spare held n 3 (([a,b,c,d].drop 1).take (Try.prog.cellsOf 3))=some (xs.getD 1 (.nil,[])):=(hf 1 _ rfl).trans (get 1 (by omega))
 have f2:DataW.trod enc Try.prog w base spare held n 3 (([a,b,c,d].drop 2).take (Try.prog.cellsOf 3))=some (xs.getD 2 (.nil,[])):=(hf 2 _ rfl).trans (get 2 (by omega))
 have f3:DataW.trod enc Try.prog w base spare held n 9 (([a,b,c,d].drop 3).take (Try.prog.cellsOf 9))=some (xs.getD 3 (.nil,[])):=(hf 3 _ rfl).trans (get 3 (by omega))
 rw [c3] at f0 f1 f2
 rw [c9] at f3
 obtain⟨z0,e0⟩:=trod_int1 f0
 obtain⟨z1,e1⟩:=trod_int1 f1
 obtain⟨z2,e2⟩:=trod_int1 f2
 obtain⟨l,e3,w3⟩:=trod_text f3
 simp at e0 e1 e2 e3
 subst e0 e1 e2 e3
 exact⟨⟨z0,z1,z2,l⟩,rfl,w3⟩

theorem trod_chg {fuel:Nat} {cs:List Value} {x:DataW H × List MemPlace} (h:DataW.trod enc Try.prog w base spare held fuel 42 cs=some x) :
  ∃ c:Chg,cs=[.string ⟨c.c.toArray⟩,.bool c.on,.int .i64 c.v.sh,.int .i64 c.v.pr,.int .i64 c.v.si,.string ⟨c.v.st.toArray⟩]∧c.c.length≤maxLen∧c.v.st.length≤maxLen:=by
 obtain⟨xs,n,_,_,hl,hx,hf⟩:=DataW.trod_struct Try.underlying42 h
 have c37:Try.prog.cellsOf 42=6:=by kernel_rfl
 have c35:Try.prog.cellsOf 40=4:=by kernel_rfl
 have c9:Try.prog.cellsOf 9=1:=by kernel_rfl
 have c4:Try.prog.cellsOf 4=1:=by kernel_rfl
 rw [c37] at hl
 obtain⟨a,b,c,d,e,f,rfl⟩:=list6 hl
 have get:∀ i,i < 3→xs[i]?=some (xs.getD i (.nil,[])):=fun i hi => by
  have:i < xs.length:=by rw [hx]; exact hi
  simp [List.getD,List.getElem?_eq_getElem this]
 have f0:DataW.trod enc Try.prog w base spare held n 9 (([a,b,c,d,e,f].drop 0).take (Try.prog.cellsOf 9))=some (xs.getD 0 (.nil,[])):=(hf 0 _ rfl).trans (get 0 (by omega))
 have f1:DataW.trod enc Try.prog w base spare held n 4 (([a,b,c,d,e,f].drop 1).take (Try.prog.cellsOf 4))=some (xs.getD 1 (.nil,[])):=(hf 1 _ rfl).trans (get 1 (by omega))
 have f2:DataW.trod enc Try.prog w base spare held n 40 (([a,b,c,d,e,f].drop 2).take (Try.prog.cellsOf 40))=some (xs.getD 2 (.nil,[])):=(hf 2 _ rfl).trans (get 2 (by omega))
 rw [c9] at f0
 rw [c4] at f1
 rw [c35] at f2
 obtain⟨l,e0,w0⟩:=trod_text f0
 obtain⟨o,e5⟩:=trod_truth f1
 obtain⟨v,e1,w1⟩:=trod_value f2
 simp at e0 e1 e5
 obtain⟨e1,e2,e3,e4⟩:=e1
 subst e0 e1 e2 e3 e4 e5
 exact⟨⟨l,o,v⟩,rfl,w0,w1⟩

end
end
section
open Go.ChangeShapes Go.WideShapes Go.ChangeAt Go.RowKit Go.Deep

theorem choose_S {α:Type} (zero:α) {n:Nat} {Q:Nat→α→Prop} (h:∀ i,i < n→∃ r,Q i r):∃ t:List α,t.length=n∧∀ i,i < n→Q i (t.getD i zero):=by
 induction n with
 | zero => exact⟨[],rfl,fun i hi => absurd hi (by omega)⟩
 | succ n ih =>
  obtain⟨t,hl,ht⟩:=ih fun i hi => h i (by omega)
  obtain⟨r,hr⟩:=h n (by omega)
  refine ⟨t ++ [r],by simp [hl],fun i hi => ?_⟩
  by_cases hin:i < n
  ·have:=ht i hin
   simp only [List.getD] at this ⊢
   rwa [List.getElem?_append_left (by omega)]
  ·obtain rfl:i=n:=by omega
   simp only [List.getD]
   rw [List.getElem?_append_right (by omega),hl]
   simpa using hr

theorem open_rdS {α:Type} {P:Program} {vals:α→List Value} {sz:Nat} {zero:α} {T S:TypeId} {Z:Value} {bytes:Nat} (D:RowOK P vals sz zero T S Z bytes) (hcells:P.cellsOf T=sz)
  {H:Type} {enc:TypeId × Value→H} {w:World} {base:Nat} {spare:Nat→Bool} {held:Bool} {ok:α→Prop}
  (helem:∀ fuel cs x,DataW.trod enc P w base spare held fuel T cs=some x→∃ r,cs=vals r∧ok r)
  {r:Reach} {b0:Nat} {v:Value} {d:DataW H} {p:List MemPlace} (hv:Value.okWide P w r b0 S v) (h:DataW.Trod enc P w base spare held S v d p) :
  ∃ t:List α,RdS vals sz zero w v t∧∀ r ∈ t,ok r:=by
 obtain⟨a,len,cap,rfl⟩:=okWide_slice D.under hv
 obtain⟨fuel,hf⟩:=h
 rcases open_slice D.under hf with ⟨hcs,_⟩ | ⟨x,l,c,m,n,D',Pl,hcs,_,hl,hm,hmm,_,hi⟩
 ·simp [Value.cells] at hcs
  obtain⟨rfl,rfl,rfl⟩:=hcs
  exact⟨[],rdS_nil w,by simp⟩
 ·simp [Value.cells] at hcs
  obtain⟨rfl,rfl,rfl⟩:=hcs
  have hlm:len≤m:=by rw [hmm]; split <;> omega
  rw [hcells] at hi
  obtain⟨t,htl,ht⟩:=choose_S zero (n:=len) (Q:=fun i r => (∀ j u,(vals r)[j]?=some u→w.cell? ((x.add (i * sz)).add j)=some u)∧ok r) (fun i hil => by
   obtain⟨cs',hc,htr⟩:=hi i (by omega)
   obtain⟨_,hcl,hat⟩:=World.cells?_some hc
   obtain⟨r,rfl,w1⟩:=helem _ _ _ htr
   refine ⟨r,fun j u hu => ?_,w1⟩
   have hj:j < sz:=by have:=(List.getElem?_eq_some_iff.1 hu).1; rwa [D.len] at this
   rw [hat j hj,hu])
  refine ⟨t,⟨some x,cap,by rw [htl],by omega,by omega,(fun e => by cases e),?_⟩,fun r hr => ?_⟩
  ·by_cases h0:len=0
   ·exact .inl (List.length_eq_zero_iff.1 (by omega))
   ·obtain⟨b,off,spot⟩:=x
    have hne:0 < (vals (t.getD 0 zero)).length:=by rw [D.len]; exact D.pos
    have hc:=(ht 0 (by omega)).1 0 _ (List.getElem?_eq_getElem hne)
    have hspot:spot=none:=by simpa [Addr.add] using World.cell?_spot hc
    subst hspot
    refine .inr ⟨b,off,rfl,?_,fun i hil => fun j u hu => ?_⟩
    ·have:=World.block_lt_of_cell? w _ hc
     simpa [Addr.add] using this
    ·have:=(ht i (by omega)).1 j u hu
     rwa [Addr.add_lit,Addr.add_lit] at this
  ·obtain⟨i,hil,rfl⟩:=List.getElem_of_mem hr
   have:=(ht i (by omega)).2
   rwa [List.getD_eq_getElem?_getD,List.getElem?_eq_getElem hil] at this
end
section
open Go.ChangeShapes Go.WideShapes Go.ChangeAt Go.RowKit Go.Deep

section
variable {H:Type} {enc:TypeId × Value→H} {w:World} {base:Nat} {spare:Nat→Bool} {held:Bool}

def cFit (c:Chg):Prop:=c.c.length≤maxLen∧c.v.st.length≤maxLen

theorem trod_chgQ (fuel:Nat) (cs:List Value) (x:DataW H × List MemPlace) (h:DataW.trod enc Try.prog w base spare held fuel 42 cs=some x):∃ c:Chg,cs=chgVals c∧cFit c:=by
 obtain⟨c,hc,w1,w2⟩:=trod_chg h
 exact⟨c,hc,w1,w2⟩

theorem open_chgs {r:Reach} {b0:Nat} {v:Value} {d:DataW H} {p:List MemPlace} (hv:Value.okWide Try.prog w r b0 24 v) (h:DataW.Trod enc Try.prog w base spare held 24 v d p) :
  ∃ l:List Chg,Chgs w v l:=by
 obtain⟨t,ht,_⟩:=open_rdS (ok:=cFit) chgOK (by kernel_rfl) trod_chgQ hv h
 exact⟨t,chgs_of ht⟩

def chg2Agg (a b:Chg):Value:=.agg #[.string ⟨a.c.toArray⟩,.bool a.on,.int .i64 a.v.sh,.int .i64 a.v.pr,.int .i64 a.v.si,.string ⟨a.v.st.toArray⟩,.string ⟨b.c.toArray⟩,.bool b.on,.int .i64 b.v.sh,.int .i64 b.v.pr,.int .i64 b.v.si,.string ⟨b.v.st.toArray⟩]

end
end
section

structure Cfg where
 room:Int
 burst:Int
 rate:Int
 per:Int

structure Bkt where
 tok:Int
 at':Int

def pcMay (c:Cfg):Bool:=decide (1≤c.room) && (decide (c.room≤16) && (decide (1≤c.burst) && (decide (c.burst≤64) && (decide (1≤c.rate) && (decide (c.rate≤16) && (decide (1≤c.per) && decide (c.per≤1000)))))))
def pcTime (n:Int):Bool:=decide (0≤n) && decide (n≤1099511627776)
def pcOne (c:Cfg) (b:Bkt):Bool:=pcMay c && (decide (0≤b.tok) && (decide (b.tok≤c.burst) && pcTime b.at'))

def pcNew (c:Cfg) (now:Int):Bkt × Nat:=if (pcMay c && pcTime now)=true then (⟨c.burst,now⟩,0) else (⟨0,0⟩,1)

def pcLev (c:Cfg) (b:Bkt) (now:Int):Int:=if now≤b.at' then b.tok else min c.burst (b.tok+(now - b.at') * c.rate)

def pcLevel (c:Cfg) (b:Bkt) (now:Int):Int:=if (pcOne c b && pcTime now)=true then pcLev c b now else 0

def pcTake (c:Cfg) (b:Bkt) (now:Int):Bkt × Bool :=
 if (pcOne c b && pcTime now)=true then
  (if pcLev c b now=0 then (⟨0,max now b.at'⟩,false) else (⟨pcLev c b now - 1,max now b.at'⟩,true))
 else (b,false)

def pcWait (c:Cfg) (b:Bkt) (now:Int):Int:=if (pcOne c b && pcTime now)=true then (if 1≤pcLev c b now then 0 else 1) else 0

theorem pcMay_iff {c:Cfg}:pcMay c=true ↔ 1≤c.room∧c.room≤16∧1≤c.burst∧c.burst≤64∧1≤c.rate∧c.rate≤16∧1≤c.per∧c.per≤1000:=by
 unfold pcMay; simp only [Bool.and_eq_true,decide_eq_true_eq]

theorem pcTime_iff {n:Int}:pcTime n=true ↔ 0≤n∧n≤1099511627776:=by
 unfold pcTime; simp only [Bool.and_eq_true,decide_eq_true_eq]

theorem pcOne_iff {c:Cfg} {b:Bkt}:pcOne c b=true ↔ pcMay c=true∧0≤b.tok∧b.tok≤c.burst∧0≤b.at'∧b.at'≤1099511627776:=by
 unfold pcOne; simp only [Bool.and_eq_true,decide_eq_true_eq,pcTime_iff]

theorem mul_ge {a r:Int} (ha:1≤a) (hr:1≤r):a≤a * r∧r≤a * r:=by
 have h1:a * 1≤a * r:=Int.mul_le_mul_of_nonneg_left hr (by omega)
 have h2:1 * r≤a * r:=Int.mul_le_mul_of_nonneg_right ha (by omega)
 omega

theorem pcLev_ge {c:Cfg} {b:Bkt} {now:Int} (h:pcOne c b=true):0≤pcLev c b now∧pcLev c b now≤c.burst∧min c.burst b.tok≤pcLev c b now:=by
 obtain⟨hm,h1,h2,h3,h4⟩:=pcOne_iff.1 h
 obtain⟨_,_,m1,m2,m3,m4,_,_⟩:=pcMay_iff.1 hm
 unfold pcLev
 split
 ·omega
 ·next hn =>
  obtain⟨g1,g2⟩:=mul_ge (a:=now - b.at') (r:=c.rate) (by omega) m3
  omega

theorem pcTake_in {c:Cfg} {b:Bkt} {now:Int} (h:pcOne c b=true) (hn:pcTime now=true) :
  pcTake c b now=if pcLev c b now=0 then (⟨0,max now b.at'⟩,false) else (⟨pcLev c b now - 1,max now b.at'⟩,true):=by
 unfold pcTake
 rw [if_pos (by rw [h,hn]; rfl)]

structure RateOK (c:Cfg) (b:Bkt) (at':List Int):Prop where
 left:∀ i (hi:i < at'.length),((at'.length - i:Nat):Int)+b.tok≤c.burst+c.rate * (b.at' - at'[i])
 all:∀ i k (hk:k < at'.length) (hik:i≤k),((k - i+1:Nat):Int)≤c.burst+c.rate * (at'[k] - at'[i]'(by omega))
end
section
open Go.ChangeShapes Go.WideShapes Go.ChangeAt Go.RowKit Go.Deep

structure CfgFit (c:Cfg):Prop where
 room:(Lit.int .i64 c.room).wf=true
 burst:(Lit.int .i64 c.burst).wf=true
 rate:(Lit.int .i64 c.rate).wf=true
 per:(Lit.int .i64 c.per).wf=true

structure BktFit (b:Bkt):Prop where
 tok:(Lit.int .i64 b.tok).wf=true
 at':(Lit.int .i64 b.at').wf=true

section
variable {H:Type} {enc:TypeId × Value→H} {w:World} {base:Nat} {spare:Nat→Bool} {held:Bool}

theorem list4P {α:Type} {l:List α} (h:l.length=4):∃ a b c d,l=[a,b,c,d]:=by
 match l,h with
 | [a,b,c,d],_ => exact⟨a,b,c,d,rfl⟩

theorem trod_intP {fuel:Nat} {cs:List Value} {x:DataW H × List MemPlace} (h:DataW.trod enc Try.prog w base spare held fuel 3 cs=some x):∃ z,cs=[.int .i64 z]∧(Lit.int .i64 z).wf=true:=by
 obtain⟨z,e,_,hw⟩:=DataW.trod_int Try.underlying3 h
 exact⟨z,e,hw⟩

theorem trod_cfg {fuel:Nat} {cs:List Value} {x:DataW H × List MemPlace} (h:DataW.trod enc Try.prog w base spare held fuel 23 cs=some x) :
  ∃ v:Cfg,cs=[.int .i64 v.room,.int .i64 v.burst,.int .i64 v.rate,.int .i64 v.per]∧CfgFit v:=by
 obtain⟨xs,n,_,_,hl,hx,hf⟩:=DataW.trod_struct Try.underlying23 h
 have c35:Try.prog.cellsOf 23=4:=by kernel_rfl
 have c3:Try.prog.cellsOf 3=1:=by kernel_rfl
 rw [c35] at hl
 obtain⟨a,b,c,d,rfl⟩:=list4P hl
 have get:∀ i,i < 4→xs[i]?=some (xs.getD i (.nil,[])):=fun i hi => by
  have:i < xs.length:=by rw [hx]; exact hi
  simp [List.getD,List.getElem?_eq_getElem this]
 have f0:DataW.trod enc Try.prog w base spare held n 3 (([a,b,c,d].drop 0).take (Try.prog.cellsOf 3))=some (xs.getD 0 (.nil,[])):=(hf 0 _ rfl).trans (get 0 (by omega))
 have f1:DataW.trod enc Try.prog w base spare held n 3 (([a,b,c,d].drop 1).take (Try.prog.cellsOf 3))=some (xs.getD 1 (.nil,[])):=(hf 1 _ rfl).trans (get 1 (by omega))
 have f2:DataW.trod enc Try.prog w base spare held n 3 (([a,b,c,d].drop 2).take (Try.prog.cellsOf 3))=some (xs.getD 2 (.nil,[])):=(hf 2 _ rfl).trans (get 2 (by omega))
 have f3:DataW.trod enc Try.prog w base spare held n 3 (([a,b,c,d].drop 3).take (Try.prog.cellsOf 3))=some (xs.getD 3 (.nil,[])):=(hf 3 _ rfl).trans (get 3 (by omega))
 rw [c3] at f0 f1 f2 f3
 obtain⟨z0,e0,w0⟩:=trod_intP f0
 obtain⟨z1,e1,w1⟩:=trod_intP f1
 obtain⟨z2,e2,w2⟩:=trod_intP f2
 obtain⟨z3,e3,w3⟩:=trod_intP f3
 simp at e0 e1 e2 e3
 subst e0 e1 e2 e3
 exact⟨⟨z0,z1,z2,z3⟩,rfl,⟨w0,w1,w2,w3⟩⟩

theorem open_cfg {r:Reach} {b0:Nat} {v:Value} {d:DataW H} {p:List MemPlace} (hv:Value.okWide Try.prog w r b0 23 v) (h:DataW.Trod enc Try.prog w base spare held 23 v d p) :
  ∃ c:Cfg,v=.agg #[.int .i64 c.room,.int .i64 c.burst,.int .i64 c.rate,.int .i64 c.per]∧CfgFit c:=by
 obtain⟨cs,rfl,_⟩:=okWide_struct Try.underlying23 hv
 obtain⟨fuel,hf⟩:=h
 obtain⟨c,hc,w1⟩:=trod_cfg hf
 refine ⟨c,?_,w1⟩
 obtain⟨l⟩:=cs
 simp [Value.cells] at hc
 rw [hc]

end
end
section
open Go.RowKit

def heldB (X:World) (bs:List (Nat × List Value)):Prop:=∀ p ∈ bs,CellsAt X p.1 0 p.2

theorem heldB_nil (X:World):heldB X []:=fun p h => by cases h
theorem heldB_cons {X:World} {b:Nat} {vs:List Value} {bs:List (Nat × List Value)} (h:CellsAt X b 0 vs) (ht:heldB X bs):heldB X ((b,vs) :: bs):=fun p hp => by
 rcases List.mem_cons.1 hp with rfl | hp
 ·exact h
 ·exact ht p hp
theorem heldB_up {W X:World} {bs:List (Nat × List Value)} (hb:Below W.heap.size W X) (h:heldB W bs):heldB X bs:=fun p hp => (h p hp).later hb
theorem heldB_get {X:World} {bs:List (Nat × List Value)} (h:heldB X bs) {b:Nat} {vs:List Value} {i:Nat} {v:Value} (hm:(b,vs) ∈ bs) (hi:vs[i]?=some v):X.cell? ⟨b,i,none⟩=some v:=by
 have:=h _ hm i v hi
 rwa [Nat.zero_add] at this

def heldD (X:World) (bs:List (Nat × List Value)) (b off:Nat) (v:Value):Prop:=heldB X bs∧X.cell? ⟨b,off,none⟩=some v

theorem cellsAt_block {X:World} {b:Nat} {cs:Array Value} {T:TypeId} (h:X.heap[b]?=some (.cells cs T (0,0))):CellsAt X b 0 cs.toList:=by
 intro j u hu
 have hj:cs[j]?=some u:=by rw [← hu]; simp
 rw [Nat.zero_add]
 unfold World.cell?
 rw [h]
 simpa using hj
end
section
open Go.RowKit

theorem upQ {w w':World} {b:Nat} {o:Obj} (h:w.heap[b]?=some o) (hb:Below w.heap.size w w'):w'.heap[b]?=some o :=
 (hb.block b (Array.getElem?_eq_some_iff.1 h).1).trans h

theorem newQ (w:World) (o:Obj):(w.alloc o).heap[w.heap.size]?=some o:=(MapKept.heap_alloc w o).1

theorem setCell_size (w:World) (p:Addr) (v:Value):(w.setCell p v).heap.size=w.heap.size:=by
 simp [World.setCell]

def stN1 (w:World) (B:Nat) (y0:Value):World:=w.setCell ⟨B,0,none⟩ y0

theorem blk2 {w:World} {B:Nat} {x0 x1:Value} {T:TypeId} (h:w.heap[B]?=some (.cells #[x0,x1] T (0,0))):(w.cell? ⟨B,0,none⟩=some x0∧w.cell? ⟨B,1,none⟩=some x1)∧(w.frozen? ⟨B,0,none⟩=false∧w.frozen? ⟨B,1,none⟩=false) :=
 ⟨⟨cell_of_row w B 0 _ _ (0,0) h,cell_of_row w B 1 _ _ (0,0) h⟩,⟨frozen_of_row w B 0 _ _ h,frozen_of_row w B 1 _ _ h⟩⟩

def stN2 (w:World) (B:Nat) (y0 y1:Value):World:=(w.setCell ⟨B,0,none⟩ y0).setCell ⟨B,1,none⟩ y1

def stN3 (w:World) (B:Nat) (y0 y1 y2:Value):World:=((w.setCell ⟨B,0,none⟩ y0).setCell ⟨B,1,none⟩ y1).setCell ⟨B,2,none⟩ y2

theorem blk4 {w:World} {B:Nat} {x0 x1 x2 x3:Value} {T:TypeId} (h:w.heap[B]?=some (.cells #[x0,x1,x2,x3] T (0,0))):(w.cell? ⟨B,0,none⟩=some x0∧w.cell? ⟨B,1,none⟩=some x1∧w.cell? ⟨B,2,none⟩=some x2∧w.cell? ⟨B,3,none⟩=some x3)∧(w.frozen? ⟨B,0,none⟩=false∧w.frozen? ⟨B,1,none⟩=false∧w.frozen? ⟨B,2,none⟩=false∧w.frozen? ⟨B,3,none⟩=false) :=
 ⟨⟨cell_of_row w B 0 _ _ (0,0) h,cell_of_row w B 1 _ _ (0,0) h,cell_of_row w B 2 _ _ (0,0) h,cell_of_row w B 3 _ _ (0,0) h⟩,⟨frozen_of_row w B 0 _ _ h,frozen_of_row w B 1 _ _ h,frozen_of_row w B 2 _ _ h,frozen_of_row w B 3 _ _ h⟩⟩

def stN4 (w:World) (B:Nat) (y0 y1 y2 y3:Value):World:=(((w.setCell ⟨B,0,none⟩ y0).setCell ⟨B,1,none⟩ y1).setCell ⟨B,2,none⟩ y2).setCell ⟨B,3,none⟩ y3

def stN5 (w:World) (B:Nat) (y0 y1 y2 y3 y4:Value):World:=((((w.setCell ⟨B,0,none⟩ y0).setCell ⟨B,1,none⟩ y1).setCell ⟨B,2,none⟩ y2).setCell ⟨B,3,none⟩ y3).setCell ⟨B,4,none⟩ y4

theorem blk6 {w:World} {B:Nat} {x0 x1 x2 x3 x4 x5:Value} {T:TypeId} (h:w.heap[B]?=some (.cells #[x0,x1,x2,x3,x4,x5] T (0,0))):(w.cell? ⟨B,0,none⟩=some x0∧w.cell? ⟨B,1,none⟩=some x1∧w.cell? ⟨B,2,none⟩=some x2∧w.cell? ⟨B,3,none⟩=some x3∧w.cell? ⟨B,4,none⟩=some x4∧w.cell? ⟨B,5,none⟩=some x5)∧(w.frozen? ⟨B,0,none⟩=false∧w.frozen? ⟨B,1,none⟩=false∧w.frozen? ⟨B,2,none⟩=false∧w.frozen? ⟨B,3,none⟩=false∧w.frozen? ⟨B,4,none⟩=false∧w.frozen? ⟨B,5,none⟩=false) :=
 ⟨⟨cell_of_row w B 0 _ _ (0,0) h,cell_of_row w B 1 _ _ (0,0) h,cell_of_row w B 2 _ _ (0,0) h,cell_of_row w B 3 _ _ (0,0) h,cell_of_row w B 4 _ _ (0,0) h,cell_of_row w B 5 _ _ (0,0) h⟩,⟨frozen_of_row w B 0 _ _ h,frozen_of_row w B 1 _ _ h,frozen_of_row w B 2 _ _ h,frozen_of_row w B 3 _ _ h,frozen_of_row w B 4 _ _ h,frozen_of_row w B 5 _ _ h⟩⟩

def stN6 (w:World) (B:Nat) (y0 y1 y2 y3 y4 y5:Value):World:=(((((w.setCell ⟨B,0,none⟩ y0).setCell ⟨B,1,none⟩ y1).setCell ⟨B,2,none⟩ y2).setCell ⟨B,3,none⟩ y3).setCell ⟨B,4,none⟩ y4).setCell ⟨B,5,none⟩ y5

theorem blk7 {w:World} {B:Nat} {x0 x1 x2 x3 x4 x5 x6:Value} {T:TypeId} (h:w.heap[B]?=some (.cells #[x0,x1,x2,x3,x4,x5,x6] T (0,0))):(w.cell? ⟨B,0,none⟩=some x0∧w.cell? ⟨B,1,none⟩=some x1∧w.cell? ⟨B,2,none⟩=some x2∧w.cell? ⟨B,3,none⟩=some x3∧w.cell? ⟨B,4,none⟩=some x4∧w.cell? ⟨B,5,none⟩=some x5∧w.cell? ⟨B,6,none⟩=some x6)∧(w.frozen? ⟨B,0,none⟩=false∧w.frozen? ⟨B,1,none⟩=false∧w.frozen? ⟨B,2,none⟩=false∧w.frozen? ⟨B,3,none⟩=false∧w.frozen? ⟨B,4,none⟩=false∧w.frozen? ⟨B,5,none⟩=false∧w.frozen? ⟨B,6,none⟩=false) :=
 ⟨⟨cell_of_row w B 0 _ _ (0,0) h,cell_of_row w B 1 _ _ (0,0) h,cell_of_row w B 2 _ _ (0,0) h,cell_of_row w B 3 _ _ (0,0) h,cell_of_row w B 4 _ _ (0,0) h,cell_of_row w B 5 _ _ (0,0) h,cell_of_row w B 6 _ _ (0,0) h⟩,⟨frozen_of_row w B 0 _ _ h,frozen_of_row w B 1 _ _ h,frozen_of_row w B 2 _ _ h,frozen_of_row w B 3 _ _ h,frozen_of_row w B 4 _ _ h,frozen_of_row w B 5 _ _ h,frozen_of_row w B 6 _ _ h⟩⟩

def stN7 (w:World) (B:Nat) (y0 y1 y2 y3 y4 y5 y6:Value):World:=((((((w.setCell ⟨B,0,none⟩ y0).setCell ⟨B,1,none⟩ y1).setCell ⟨B,2,none⟩ y2).setCell ⟨B,3,none⟩ y3).setCell ⟨B,4,none⟩ y4).setCell ⟨B,5,none⟩ y5).setCell ⟨B,6,none⟩ y6

theorem stN7_heap {w:World} {B:Nat} {x0 x1 x2 x3 x4 x5 x6:Value} {T:TypeId} (h:w.heap[B]?=some (.cells #[x0,x1,x2,x3,x4,x5,x6] T (0,0))) (y0 y1 y2 y3 y4 y5 y6:Value):(stN7 w B y0 y1 y2 y3 y4 y5 y6).heap[B]?=some (.cells #[y0,y1,y2,y3,y4,y5,y6] T (0,0)):=by
 have h0:(w.setCell ⟨B,0,none⟩ y0).heap[B]?=some (.cells #[y0,x1,x2,x3,x4,x5,x6] T (0,0)):=heap_setCell_same w B 0 _ _ y0 h
 have h1:((w.setCell ⟨B,0,none⟩ y0).setCell ⟨B,1,none⟩ y1).heap[B]?=some (.cells #[y0,y1,x2,x3,x4,x5,x6] T (0,0)):=heap_setCell_same _ B 1 _ _ y1 h0
 have h2:(((w.setCell ⟨B,0,none⟩ y0).setCell ⟨B,1,none⟩ y1).setCell ⟨B,2,none⟩ y2).heap[B]?=some (.cells #[y0,y1,y2,x3,x4,x5,x6] T (0,0)):=heap_setCell_same _ B 2 _ _ y2 h1
 have h3:((((w.setCell ⟨B,0,none⟩ y0).setCell ⟨B,1,none⟩ y1).setCell ⟨B,2,none⟩ y2).setCell ⟨B,3,none⟩ y3).heap[B]?=some (.cells #[y0,y1,y2,y3,x4,x5,x6] T (0,0)):=heap_setCell_same _ B 3 _ _ y3 h2
 have h4:(((((w.setCell ⟨B,0,none⟩ y0).setCell ⟨B,1,none⟩ y1).setCell ⟨B,2,none⟩ y2).setCell ⟨B,3,none⟩ y3).setCell ⟨B,4,none⟩ y4).heap[B]?=some (.cells #[y0,y1,y2,y3,y4,x5,x6] T (0,0)):=heap_setCell_same _ B 4 _ _ y4 h3
 have h5:((((((w.setCell ⟨B,0,none⟩ y0).setCell ⟨B,1,none⟩ y1).setCell ⟨B,2,none⟩ y2).setCell ⟨B,3,none⟩ y3).setCell ⟨B,4,none⟩ y4).setCell ⟨B,5,none⟩ y5).heap[B]?=some (.cells #[y0,y1,y2,y3,y4,y5,x6] T (0,0)):=heap_setCell_same _ B 5 _ _ y5 h4
 have h6:(((((((w.setCell ⟨B,0,none⟩ y0).setCell ⟨B,1,none⟩ y1).setCell ⟨B,2,none⟩ y2).setCell ⟨B,3,none⟩ y3).setCell ⟨B,4,none⟩ y4).setCell ⟨B,5,none⟩ y5).setCell ⟨B,6,none⟩ y6).heap[B]?=some (.cells #[y0,y1,y2,y3,y4,y5,y6] T (0,0)):=heap_setCell_same _ B 6 _ _ y6 h5
 exact h6

theorem stN7_far (w:World) (B:Nat) (y0 y1 y2 y3 y4 y5 y6:Value) {k:Nat} (hk:¬ k=B):(stN7 w B y0 y1 y2 y3 y4 y5 y6).heap[k]?=w.heap[k]?:=by
 unfold stN7
 rw [Below.heap_setCell _ _ _ k hk,Below.heap_setCell _ _ _ k hk,Below.heap_setCell _ _ _ k hk,Below.heap_setCell _ _ _ k hk,Below.heap_setCell _ _ _ k hk,Below.heap_setCell _ _ _ k hk,Below.heap_setCell _ _ _ k hk]

theorem stN7_below {w0 w:World} {n B:Nat} (h:Below n w0 w) (hB:n≤B) (y0 y1 y2 y3 y4 y5 y6:Value):Below n w0 (stN7 w B y0 y1 y2 y3 y4 y5 y6):=by
 unfold stN7
 exact ((((((h.setCell hB _).setCell hB _).setCell hB _).setCell hB _).setCell hB _).setCell hB _).setCell hB _

theorem stN7_size (w:World) (B:Nat) (y0 y1 y2 y3 y4 y5 y6:Value):(stN7 w B y0 y1 y2 y3 y4 y5 y6).heap.size=w.heap.size:=by
 unfold stN7
 simp only [setCell_size]

def stN8 (w:World) (B:Nat) (y0 y1 y2 y3 y4 y5 y6 y7:Value):World:=(((((((w.setCell ⟨B,0,none⟩ y0).setCell ⟨B,1,none⟩ y1).setCell ⟨B,2,none⟩ y2).setCell ⟨B,3,none⟩ y3).setCell ⟨B,4,none⟩ y4).setCell ⟨B,5,none⟩ y5).setCell ⟨B,6,none⟩ y6).setCell ⟨B,7,none⟩ y7

theorem blk10 {w:World} {B:Nat} {x0 x1 x2 x3 x4 x5 x6 x7 x8 x9:Value} {T:TypeId} (h:w.heap[B]?=some (.cells #[x0,x1,x2,x3,x4,x5,x6,x7,x8,x9] T (0,0))):(w.cell? ⟨B,0,none⟩=some x0∧w.cell? ⟨B,1,none⟩=some x1∧w.cell? ⟨B,2,none⟩=some x2∧w.cell? ⟨B,3,none⟩=some x3∧w.cell? ⟨B,4,none⟩=some x4∧w.cell? ⟨B,5,none⟩=some x5∧w.cell? ⟨B,6,none⟩=some x6∧w.cell? ⟨B,7,none⟩=some x7∧w.cell? ⟨B,8,none⟩=some x8∧w.cell? ⟨B,9,none⟩=some x9)∧(w.frozen? ⟨B,0,none⟩=false∧w.frozen? ⟨B,1,none⟩=false∧w.frozen? ⟨B,2,none⟩=false∧w.frozen? ⟨B,3,none⟩=false∧w.frozen? ⟨B,4,none⟩=false∧w.frozen? ⟨B,5,none⟩=false∧w.frozen? ⟨B,6,none⟩=false∧w.frozen? ⟨B,7,none⟩=false∧w.frozen? ⟨B,8,none⟩=false∧w.frozen? ⟨B,9,none⟩=false) :=
 ⟨⟨cell_of_row w B 0 _ _ (0,0) h,cell_of_row w B 1 _ _ (0,0) h,cell_of_row w B 2 _ _ (0,0) h,cell_of_row w B 3 _ _ (0,0) h,cell_of_row w B 4 _ _ (0,0) h,cell_of_row w B 5 _ _ (0,0) h,cell_of_row w B 6 _ _ (0,0) h,cell_of_row w B 7 _ _ (0,0) h,cell_of_row w B 8 _ _ (0,0) h,cell_of_row w B 9 _ _ (0,0) h⟩,⟨frozen_of_row w B 0 _ _ h,frozen_of_row w B 1 _ _ h,frozen_of_row w B 2 _ _ h,frozen_of_row w B 3 _ _ h,frozen_of_row w B 4 _ _ h,frozen_of_row w B 5 _ _ h,frozen_of_row w B 6 _ _ h,frozen_of_row w B 7 _ _ h,frozen_of_row w B 8 _ _ h,frozen_of_row w B 9 _ _ h⟩⟩

def stN10 (w:World) (B:Nat) (y0 y1 y2 y3 y4 y5 y6 y7 y8 y9:Value):World:=(((((((((w.setCell ⟨B,0,none⟩ y0).setCell ⟨B,1,none⟩ y1).setCell ⟨B,2,none⟩ y2).setCell ⟨B,3,none⟩ y3).setCell ⟨B,4,none⟩ y4).setCell ⟨B,5,none⟩ y5).setCell ⟨B,6,none⟩ y6).setCell ⟨B,7,none⟩ y7).setCell ⟨B,8,none⟩ y8).setCell ⟨B,9,none⟩ y9

theorem stN10_heap {w:World} {B:Nat} {x0 x1 x2 x3 x4 x5 x6 x7 x8 x9:Value} {T:TypeId} (h:w.heap[B]?=some (.cells #[x0,x1,x2,x3,x4,x5,x6,x7,x8,x9] T (0,0))) (y0 y1 y2 y3 y4 y5 y6 y7 y8 y9:Value):(stN10 w B y0 y1 y2 y3 y4 y5 y6 y7 y8 y9).heap[B]?=some (.cells #[y0,y1,y2,y3,y4,y5,y6,y7,y8,y9] T (0,0)):=by
 have h0:(w.setCell ⟨B,0,none⟩ y0).heap[B]?=some (.cells #[y0,x1,x2,x3,x4,x5,x6,x7,x8,x9] T (0,0)):=heap_setCell_same w B 0 _ _ y0 h
 have h1:((w.setCell ⟨B,0,none⟩ y0).setCell ⟨B,1,none⟩ y1).heap[B]?=some (.cells #[y0,y1,x2,x3,x4,x5,x6,x7,x8,x9] T (0,0)):=heap_setCell_same _ B 1 _ _ y1 h0
 have h2:(((w.setCell ⟨B,0,none⟩ y0).setCell ⟨B,1,none⟩ y1).setCell ⟨B,2,none⟩ y2).heap[B]?=some (.cells #[y0,y1,y2,x3,x4,x5,x6,x7,x8,x9] T (0,0)):=heap_setCell_same _ B 2 _ _ y2 h1
 have h3:((((w.setCell ⟨B,0,none⟩ y0).setCell ⟨B,1,none⟩ y1).setCell ⟨B,2,none⟩ y2).setCell ⟨B,3,none⟩ y3).heap[B]?=some (.cells #[y0,y1,y2,y3,x4,x5,x6,x7,x8,x9] T (0,0)):=heap_setCell_same _ B 3 _ _ y3 h2
 have h4:(((((w.setCell ⟨B,0,none⟩ y0).setCell ⟨B,1,none⟩ y1).setCell ⟨B,2,none⟩ y2).setCell ⟨B,3,none⟩ y3).setCell ⟨B,4,none⟩ y4).heap[B]?=some (.cells #[y0,y1,y2,y3,y4,x5,x6,x7,x8,x9] T (0,0)):=heap_setCell_same _ B 4 _ _ y4 h3
 have h5:((((((w.setCell ⟨B,0,none⟩ y0).setCell ⟨B,1,none⟩ y1).setCell ⟨B,2,none⟩ y2).setCell ⟨B,3,none⟩ y3).setCell ⟨B,4,none⟩ y4).setCell ⟨B,5,none⟩ y5).heap[B]?=some (.cells #[y0,y1,y2,y3,y4,y5,x6,x7,x8,x9] T (0,0)):=heap_setCell_same _ B 5 _ _ y5 h4
 have h6:(((((((w.setCell ⟨B,0,none⟩ y0).setCell ⟨B,1,none⟩ y1).setCell ⟨B,2,none⟩ y2).setCell ⟨B,3,none⟩ y3).setCell ⟨B,4,none⟩ y4).setCell ⟨B,5,none⟩ y5).setCell ⟨B,6,none⟩ y6).heap[B]?=some (.cells #[y0,y1,y2,y3,y4,y5,y6,x7,x8,x9] T (0,0)):=heap_setCell_same _ B 6 _ _ y6 h5
 have h7:((((((((w.setCell ⟨B,0,none⟩ y0).setCell ⟨B,1,none⟩ y1).setCell ⟨B,2,none⟩ y2).setCell ⟨B,3,none⟩ y3).setCell ⟨B,4,none⟩ y4).setCell ⟨B,5,none⟩ y5).setCell ⟨B,6,none⟩ y6).setCell ⟨B,7,none⟩ y7).heap[B]?=some (.cells #[y0,y1,y2,y3,y4,y5,y6,y7,x8,x9] T (0,0)):=heap_setCell_same _ B 7 _ _ y7 h6
 have h8:(((((((((w.setCell ⟨B,0,none⟩ y0).setCell ⟨B,1,none⟩ y1).setCell ⟨B,2,none⟩ y2).setCell ⟨B,3,none⟩ y3).setCell ⟨B,4,none⟩ y4).setCell ⟨B,5,none⟩ y5).setCell ⟨B,6,none⟩ y6).setCell ⟨B,7,none⟩ y7).setCell ⟨B,8,none⟩ y8).heap[B]?=some (.cells #[y0,y1,y2,y3,y4,y5,y6,y7,y8,x9] T (0,0)):=heap_setCell_same _ B 8 _ _ y8 h7
 have h9:((((((((((w.setCell ⟨B,0,none⟩ y0).setCell ⟨B,1,none⟩ y1).setCell ⟨B,2,none⟩ y2).setCell ⟨B,3,none⟩ y3).setCell ⟨B,4,none⟩ y4).setCell ⟨B,5,none⟩ y5).setCell ⟨B,6,none⟩ y6).setCell ⟨B,7,none⟩ y7).setCell ⟨B,8,none⟩ y8).setCell ⟨B,9,none⟩ y9).heap[B]?=some (.cells #[y0,y1,y2,y3,y4,y5,y6,y7,y8,y9] T (0,0)):=heap_setCell_same _ B 9 _ _ y9 h8
 exact h9

theorem stN10_far (w:World) (B:Nat) (y0 y1 y2 y3 y4 y5 y6 y7 y8 y9:Value) {k:Nat} (hk:¬ k=B):(stN10 w B y0 y1 y2 y3 y4 y5 y6 y7 y8 y9).heap[k]?=w.heap[k]?:=by
 unfold stN10
 rw [Below.heap_setCell _ _ _ k hk,Below.heap_setCell _ _ _ k hk,Below.heap_setCell _ _ _ k hk,Below.heap_setCell _ _ _ k hk,Below.heap_setCell _ _ _ k hk,Below.heap_setCell _ _ _ k hk,Below.heap_setCell _ _ _ k hk,Below.heap_setCell _ _ _ k hk,Below.heap_setCell _ _ _ k hk,Below.heap_setCell _ _ _ k hk]

theorem stN10_below {w0 w:World} {n B:Nat} (h:Below n w0 w) (hB:n≤B) (y0 y1 y2 y3 y4 y5 y6 y7 y8 y9:Value):Below n w0 (stN10 w B y0 y1 y2 y3 y4 y5 y6 y7 y8 y9):=by
 unfold stN10
 exact (((((((((h.setCell hB _).setCell hB _).setCell hB _).setCell hB _).setCell hB _).setCell hB _).setCell hB _).setCell hB _).setCell hB _).setCell hB _

def stN13 (w:World) (B:Nat) (y0 y1 y2 y3 y4 y5 y6 y7 y8 y9 y10 y11 y12:Value):World:=((((((((((((w.setCell ⟨B,0,none⟩ y0).setCell ⟨B,1,none⟩ y1).setCell ⟨B,2,none⟩ y2).setCell ⟨B,3,none⟩ y3).setCell ⟨B,4,none⟩ y4).setCell ⟨B,5,none⟩ y5).setCell ⟨B,6,none⟩ y6).setCell ⟨B,7,none⟩ y7).setCell ⟨B,8,none⟩ y8).setCell ⟨B,9,none⟩ y9).setCell ⟨B,10,none⟩ y10).setCell ⟨B,11,none⟩ y11).setCell ⟨B,12,none⟩ y12
end
section
open Go.RowKit

section
variable {P:Program} {ops:Array Oper} {Q:Exit→Act→World→Prop} {md:Region.Mode} {S:World→Prop}

theorem tkZ (i:Nat) {oi:Oper} {v:Value} {fuel:Nat} {listed:Array Bool} {a a':Act} {w:World} (h:wpAnyH P md ops Q S fuel (listed.setIfInBounds i true) a' w)
  (hi:ops[i]?=some oi:=by (simp only [List.getElem?_toArray,List.getElem?_cons_succ,List.getElem?_cons_zero]; exact rfl))
  (hs:Region.noSelect ops=true:=by as_aux_lemma => kernel_rfl) (hf:Region.free md ops listed i=true:=by as_aux_lemma => kernel_rfl) (hr:(Region.ready md ops listed).contains i=true:=by as_aux_lemma => kernel_rfl)
  (hy:Region.wanted oi (yielded ops a.tmps)=true:=by rfl)
  (hv:∀ w',S w'→(execOp a.eval oi).run P w'=.ok (.value v) w':=by (intro w' hSw; (try dsimp only at hSw); go_simp; (try with_reducible rfl)))
  (ha:a.put oi.dst v=a':=by ((try simp only [Act.put,List.setIfInBounds_toArray,List.set_cons_zero,List.set_cons_succ]); exact rfl))
  (hQ:∀ c a w,Q (.panic c) (a.put oi.dst v) w→Q (.panic c) a w:=by exact fun _ _ _ h => h) (hS:S w:=by assumption):wpAnyH P md ops Q S (fuel+1) listed a w:=by
 subst ha
 exact wpAnyH_take hi hs hf hr hQ (Or.inl ⟨hy,hv⟩) hS h

end

theorem heldB_at {bs:List (Nat × List Value)} {b:Nat} {vs:List Value} (hm:(b,vs) ∈ bs) (i:Nat) (v:Value) (hi:vs[i]?=some v) (X:World) (h:heldB X bs):X.cell? ⟨b,i,none⟩=some v:=heldB_get h hm hi

theorem ckZ {w:World} {b:Nat} {l:List Value} {T:TypeId} (h:w.heap[b]?=some (.cells l.toArray T (0,0))) (i:Nat) (v:Value) (hi:l[i]?=some v):w.cell? ⟨b,i,none⟩=some v:=by
 rw [cell_of_row w b i _ _ _ h]
 simpa using hi

theorem stS {w:World} {B:Nat} {old:List Value} {T:TypeId} (h:w.heap[B]?=some (.cells old.toArray T (0,0))) (i:Nat) (v:Value) (new:List Value) (hn:old.set i v=new):(w.setCell ⟨B,i,none⟩ v).heap[B]?=some (.cells new.toArray T (0,0)):=by
 have:=heap_setCell_same w B i _ _ v h
 rw [this,← hn]
 simp

theorem ent1 (w:World) (o0:Obj):Hid ((w.alloc o0).heap[w.heap.size]?=some o0)∧Hid (Below w.heap.size w (w.alloc o0)):=⟨newQ w o0,bl_newZ w o0⟩
theorem ent2 (w:World) (o0 o1:Obj):Hid (((w.alloc o0).alloc o1).heap[w.heap.size]?=some o0)∧Hid (((w.alloc o0).alloc o1).heap[w.heap.size+1]?=some o1)∧Hid (Below w.heap.size w ((w.alloc o0).alloc o1)):=by
 have h:=newQ (w.alloc o0) o1
 rw [World.size_alloc] at h
 exact⟨upQ (newQ w o0) (bl_newZ _ o1),h,below2Z (bl_newZ w o0) (bl_newZ _ o1)⟩
theorem ent3 (w:World) (o0 o1 o2:Obj):Hid ((((w.alloc o0).alloc o1).alloc o2).heap[w.heap.size]?=some o0)∧Hid ((((w.alloc o0).alloc o1).alloc o2).heap[w.heap.size+1]?=some o1)∧Hid ((((w.alloc o0).alloc o1).alloc o2).heap[w.heap.size+1+1]?=some o2)∧Hid (Below w.heap.size w (((w.alloc o0).alloc o1).alloc o2)):=by
 obtain⟨h0,h1,h2⟩:=ent2 w o0 o1
 have h:=newQ ((w.alloc o0).alloc o1) o2
 rw [World.size_alloc,World.size_alloc] at h
 exact⟨upQ h0 (bl_newZ _ o2),upQ h1 (bl_newZ _ o2),h,below2Z h2 (bl_newZ _ o2)⟩
theorem ent4 (w:World) (o0 o1 o2 o3:Obj):Hid (((((w.alloc o0).alloc o1).alloc o2).alloc o3).heap[w.heap.size]?=some o0)∧Hid (((((w.alloc o0).alloc o1).alloc o2).alloc o3).heap[w.heap.size+1]?=some o1)∧Hid (((((w.alloc o0).alloc o1).alloc o2).alloc o3).heap[w.heap.size+1+1]?=some o2)∧Hid (((((w.alloc o0).alloc o1).alloc o2).alloc o3).heap[w.heap.size+1+1+1]?=some o3)∧Hid (Below w.heap.size w ((((w.alloc o0).alloc o1).alloc o2).alloc o3)):=by
 obtain⟨h0,h1,h2,h3⟩:=ent3 w o0 o1 o2
 have h:=newQ (((w.alloc o0).alloc o1).alloc o2) o3
 rw [World.size_alloc,World.size_alloc,World.size_alloc] at h
 exact⟨upQ h0 (bl_newZ _ o3),upQ h1 (bl_newZ _ o3),upQ h2 (bl_newZ _ o3),h,below2Z h3 (bl_newZ _ o3)⟩
end
section
open Go.RowKit

theorem find_mem {l:List Chg} (h:quNo2 l) {c:Chg} (hc:c ∈ l) (la:Bool):quFind ⟨l,la⟩ c.c=(c,true):=by
 obtain⟨k,hk,rfl⟩:=List.getElem_of_mem hc
 have e:l.getD k Chg.nought=l[k]:=by rw [List.getD_eq_getElem?_getD,List.getElem?_eq_getElem hk]; rfl
 have ho:=quAt_own h hk
 rw [e] at ho
 unfold quFind
 rw [if_pos (quHas_iff.2 ⟨_,hc,rfl⟩)]
 simp only [ho,e]

theorem find_none {l:List Chg} {x:List UInt8} (h:quHas l x=false) (la:Bool):quFind ⟨l,la⟩ x=(Chg.nought,false):=by
 unfold quFind
 rw [if_neg (by simp only; rw [h]; decide)]

theorem find_push_same {l:List Chg} {c:Chg} {room:Int} (hp:(quPush ⟨l,false⟩ c room).la=false):quFind ⟨(quPush ⟨l,false⟩ c room).l,false⟩ c.c=(c,true):=by
 have h:=(quPush_there hp).2.2.1
 unfold quFind at h ⊢
 exact h

theorem find_push_other {l:List Chg} (hl:quNo2 l) {c:Chg} {room:Int} (hp:(quPush ⟨l,false⟩ c room).la=false) {x:List UInt8} (hx:¬ x=c.c):quFind ⟨(quPush ⟨l,false⟩ c room).l,false⟩ x=quFind ⟨l,false⟩ x:=by
 have hh:=quPush_has hp x hx
 have hn:=quPush_no2 (q:=⟨l,false⟩) (c:=c) (room:=room) hl
 simp only at hh
 cases hq:quHas l x with
 | false => rw [find_none hq,find_none (hh.trans hq)]
 | true =>
  obtain⟨y,hy,rfl⟩:=quHas_iff.1 hq
  obtain⟨z,hz,hzc⟩:=quHas_iff.1 (hh.trans hq)
  rw [find_mem hl hy,← hzc,find_mem hn hz]
  rcases quPush_mem (q:=⟨l,false⟩) hz with rfl | hz2
  ·exact absurd hzc.symm hx
  ·have e1:=find_mem hl hz2 false
   rw [hzc,find_mem hl hy false] at e1
   simp only [Prod.mk.injEq,and_true] at e1
   rw [e1]

theorem find_tail {c:Chg} {l:List Chg} (h:quNo2 (c :: l)) (x:List UInt8):quFind ⟨l,false⟩ x=if x=c.c then (Chg.nought,false) else quFind ⟨c :: l,false⟩ x:=by
 have ht:=quNo2_tail h
 by_cases hx:x=c.c
 ·rw [if_pos hx]
  cases hq:quHas l x with
  | false => exact find_none hq _
  | true =>
   obtain⟨y,hy,hyc⟩:=quHas_iff.1 hq
   unfold quNo2 at h
   simp only [List.map_cons,List.nodup_cons] at h
   exact absurd (List.mem_map.2 ⟨y,hy,by rw [hyc,hx]⟩) h.1
 ·rw [if_neg hx]
  cases hq:quHas l x with
  | false =>
   rw [find_none hq,find_none]
   cases h2:quHas (c :: l) x with
   | false => rfl
   | true =>
    obtain⟨y,hy,hyc⟩:=quHas_iff.1 h2
    rcases List.mem_cons.1 hy with rfl | hy
    ·exact absurd hyc.symm hx
    ·rw [quHas_iff.2 ⟨y,hy,hyc⟩] at hq; cases hq
  | true =>
   obtain⟨y,hy,rfl⟩:=quHas_iff.1 hq
   rw [find_mem ht hy,find_mem h (List.mem_cons_of_mem _ hy)]
end
section
open Go.RowKit Go.ChangeMaps Go.MapKept

def chgData (c:Chg):DataW Unit:=.agg [.lit (.string c.c),.lit (.bool c.on),.lit (.int .i64 c.v.sh),.lit (.int .i64 c.v.pr),.lit (.int .i64 c.v.si),.lit (.string c.v.st)]

def chgElem:Value→Option (DataW Unit × List MemPlace)
 | .agg cs => match cs.toList with
  | [.string c,.bool o,.int .i64 x,.int .i64 y,.int .i64 z,.string s] => some (chgData ⟨c.data.toList,o,⟨x,y,z,s.data.toList⟩⟩,[])
  | _ => none
 | _ => none

theorem chgElem_mk (c:Chg):chgElem (chgAgg c)=some (chgData c,[]):=rfl

theorem chgData_inj {r s:Chg} (h:chgData r=chgData s):r=s:=by
 obtain⟨c,o,⟨x,y,z,st⟩⟩:=r
 obtain⟨c',o',⟨x',y',z',st'⟩⟩:=s
 simp only [chgData,DataW.agg.injEq,List.cons.injEq,DataW.lit.injEq,Lit.string.injEq,Lit.bool.injEq,Lit.int.injEq,true_and,and_true] at h
 obtain⟨rfl,rfl,rfl,rfl,rfl,rfl⟩:=h
 rfl

theorem chgElem_inv {v:Value} {z:DataW Unit × List MemPlace} (h:chgElem v=some z):∃ c,v=chgAgg c∧z=(chgData c,[]):=by
 unfold chgElem at h
 split at h
 ·rename_i cs
  split at h
  ·rename_i c o x y z s he
   refine ⟨⟨c.data.toList,o,⟨x,y,z,s.data.toList⟩⟩,?_,(Option.some.inj h).symm⟩
   obtain⟨l⟩:=cs
   simp only at he
   subst he
   obtain⟨⟨c⟩⟩:=c
   obtain⟨⟨s⟩⟩:=s
   rfl
  ·cases h
 ·cases h

def ChgsAt (w:World) (B N:Nat) (l:List Chg):Prop :=
 ∃ n,∃ D:DataW Unit,n≤N∧w.ownsMap Try.prog 9 chgElem B n D∧quNo2 l∧Maps.size D=l.length ∧
  ∀ x:List UInt8,Maps.has D (.string x)=quHas l x∧D.atKey (.string x) (chgData Chg.nought)=chgData (quFind ⟨l,false⟩ x).1

theorem chgsAt_made (w:World) (N:Nat):ChgsAt (w.alloc (.map #[] 0)) w.heap.size N [] :=
 ⟨0,.map [],Nat.zero_le _,World.ownsMap_made w _ _ _,by unfold quNo2; exact List.nodup_nil,rfl,fun _ => ⟨rfl,rfl⟩⟩

theorem ChgsAt.lt {w:World} {B N:Nat} {l:List Chg} (h:ChgsAt w B N l):B < w.heap.size:=by
 obtain⟨_,_,_,h,_⟩:=h
 exact h.lt

theorem ChgsAt.kept {w w':World} {B N:Nat} {l:List Chg} (h:ChgsAt w B N l) (hb:w'.heap[B]?=w.heap[B]?):ChgsAt w' B N l:=by
 obtain⟨n,D,h1,⟨es,clock,h2,h3,h4,h5⟩,h6⟩:=h
 exact⟨n,D,h1,⟨es,clock,hb.trans h2,h3,h4,h5⟩,h6⟩

theorem ChgsAt.later {w w':World} {B N:Nat} {l:List Chg} (h:ChgsAt w B N l) (hb:Below w.heap.size w w'):ChgsAt w' B N l:=h.kept (hb.block B h.lt)

theorem ChgsAt.len {w:World} {B N:Nat} {l:List Chg} (h:ChgsAt w B N l) (ty:TypeId) :
  (Builtin.len_ #[37] ty #[.map (some B)]).run Try.prog w=.ok (.int .i64 l.length) w:=by
 obtain⟨n,D,h1,h2,_,h3,_⟩:=h
 rw [← h3]
 exact h2.len Try.underlying37 ty

theorem zeroChgM (w:World):(zeroValue 42).run Try.prog w=.ok (chgAgg Chg.nought) w:=by kernel_rfl

theorem ChgsAt.lookOk {w:World} {B N:Nat} {l:List Chg} (h:ChgsAt w B N l) (x:List UInt8) (hx:x.length≤4294967296) :
  (Instr.lookup 37 (.map (some B)) (.string ⟨x.toArray⟩) true).run Try.prog w=.ok (.tuple #[chgAgg (quFind ⟨l,false⟩ x).1,.bool (quHas l x)]) w:=by
 obtain⟨n,D,h1,h2,_,_,h3⟩:=h
 obtain⟨v,ps,hrun,hv⟩:=h2.look_ok (Maps.string_keyed Try.underlying9) Try.underlying37 (zeroChgM w) (chgElem_mk Chg.nought) (key_at x hx)
 rw [(h3 x).2] at hv
 obtain⟨r,rfl,hr⟩:=chgElem_inv hv
 simp only [Prod.mk.injEq] at hr
 rw [← chgData_inj hr.1,(h3 x).1] at hrun
 exact hrun

theorem ChgsAt.look {w:World} {B N:Nat} {l:List Chg} (h:ChgsAt w B N l) (x:List UInt8) (hx:x.length≤4294967296) :
  (Instr.lookup 37 (.map (some B)) (.string ⟨x.toArray⟩) false).run Try.prog w=.ok (chgAgg (quFind ⟨l,false⟩ x).1) w:=by
 obtain⟨n,D,h1,h2,_,_,h3⟩:=h
 obtain⟨v,ps,hrun,hv⟩:=h2.lookup (Maps.string_keyed Try.underlying9) Try.underlying37 (zeroChgM w) (chgElem_mk Chg.nought) (key_at x hx)
 rw [(h3 x).2] at hv
 obtain⟨r,rfl,hr⟩:=chgElem_inv hv
 simp only [Prod.mk.injEq] at hr
 rw [← chgData_inj hr.1] at hrun
 exact hrun

theorem wpList_chg_del {w:World} {ops:Array Oper} {rest:List Oper} {o:Oper} {a:Act} {Q:Exit→Act→World→Prop}
  (hg:o.guard=none) (m x:Operand) (hop:o.op=Op.call { callee:=Callee.builtin Builtin.delete,args:=#[m,x],argTypes:=#[37,9] }) (B N:Nat) (c:Chg) (l:List Chg) (hm:a.eval m=.map (some B)) (hown:ChgsAt w B N (c :: l))
  (hu:c.c.length≤4294967296) (hx:a.eval x=.string ⟨c.c.toArray⟩)
  (hK:∀ w',ChgsAt w' B N l→w.mapTurned w' B→wpList Try.prog ops Q rest (a.put o.dst (.tuple #[])) w') :
  wpList Try.prog ops Q (o :: rest) a w:=by
 obtain⟨n,D,h1,h2,h5,h6,h3⟩:=hown
 refine wpList_delete_own w hg m x _ _ hop _ (Maps.string_keyed Try.underlying9) Try.underlying37 _ B n D hm h2 _ (.string c.c) hx (key_at c.c hu) ?_
 intro w' k6 k7
 have hT:=h2.tidy (Maps.string_keyed Try.underlying9)
 have hne:∀ y:List UInt8,¬ y=c.c→(Lit.string y) ≠ .string c.c:=fun y h e => h (by injection e)
 have hc:quHas (c :: l) c.c=true:=quHas_iff.2 ⟨c,List.mem_cons_self,rfl⟩
 have hsz:Maps.size (D.del (.string c.c))+(if Maps.has D (.string c.c) then 1 else 0)=Maps.size D:=Maps.size_del hT
 rw [(h3 c.c).1,hc,h6,if_pos rfl,List.length_cons] at hsz
 have hft:=find_tail h5
 refine hK w' ⟨n,_,h1,k6,quNo2_tail h5,by omega,fun y => ?_⟩ k7
 have h2y:∀ (t:List Chg),(quFind ⟨t,false⟩ y).2=quHas t y:=fun t => quFind_zero ⟨t,false⟩ y
 by_cases e:y=c.c
 ·subst e
  rw [hft c.c,if_pos rfl,Maps.has_del_same,Maps.atKey_del_same]
  have:=h2y l
  rw [hft c.c,if_pos rfl] at this
  exact⟨this,rfl⟩
 ·rw [hft y,if_neg e,Maps.has_del_other (hne y e),Maps.atKey_del_other (hne y e),(h3 y).1,(h3 y).2]
  have:=h2y l
  rw [hft y,if_neg e,h2y] at this
  exact⟨this,rfl⟩
end
section

def c1 (x:Nat):Nat:=if x % 2=1 then x / 2 ^^^ 3988292384 else x / 2

def cN:Nat→Nat→Nat
 | 0,x => x
 | k+1,x => cN k (c1 x)

def cstep (c b:Nat):Nat:=cN 8 (c ^^^ b)

def cfold (c:Nat) (l:List UInt8):Nat:=l.foldl (fun c b => cstep c b.toNat) c

def csum (l:List UInt8):Nat:=cfold 4294967295 l ^^^ 4294967295

def low4 (n:Nat):List UInt8:=[u8of (n % 256),u8of (n / 256 % 256),u8of (n / 65536 % 256),u8of (n / 16777216 % 256)]

def cseal (l:List UInt8):List UInt8:=l ++ low4 (csum l)

def copen (t:List UInt8):List UInt8 × Nat :=
 if t.length < 4 then ([],2) else if t.drop (t.length - 4)=low4 (csum (t.take (t.length - 4))) then (t.take (t.length - 4),0) else ([],4)

def cK:Nat:=cN 32 4294967295
end
end Go.Proofs.Ytfocooajnignbaa
