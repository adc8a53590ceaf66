/-
 TEXTS OF THE PROOF, one behind the other: FraTk, Seq, Aid, Blk, Held.
-/
import Derived.Test.YtekkofldhhdpgaaGreatC17
import Derived.Test.YtekkofldhhdpgaaGreatC01
import Derived.Laws.IdiomCopy
import Derived.Laws.AppendOwnNone
import Derived.Lib.AppendZerosOnto
import Derived.Lib.Overlaps
import Derived.Deep.RegionLaw
import Derived.Laws.Externs
import Derived.Lib.SliceRun
import Derived.MapKept
import Derived.Deep.RegionHeld
import Derived.BigRegion
import Derived.Lib.Hide

set_option maxHeartbeats 12800000
set_option maxRecDepth 100000

section

namespace Go.Proofs.YtekkofldhhdpgaaGreat
open Go.RowKit

def tkBody (k:Nat) (b:List UInt8):Option Frm :=
 if k=1 then tkDelta b else if k=2 then tkDigest b else if k=3 then tkSnapshot b else tkResync b

def tkAll (l:List UInt8):Option Frm × Int × Int :=
 match l with
 | [] => (none,0,0)
 | x :: r => if x.toNat < 1∨4 < x.toNat then (none,0,0) else if (vget (x :: r) 1).2.2 ≠ 0 then (none,0,0) else (tkBody x.toNat ((x :: r).drop (vget (x :: r) 1).2.1),x.toNat,IntKind.i64.wrap ((vget (x :: r) 1).1:Int))

def TookA (r:Option Frm × Int × Int) (w:World) (e:Ending) (w':World):Prop :=
 ∃ v,e=.returned (.tuple #[frAgg ⟨r.2.1,r.2.2,(r.1.getD Frm.zero).on,(r.1.getD Frm.zero).c,(r.1.getD Frm.zero).v,(r.1.getD Frm.zero).sum,(r.1.getD Frm.zero).t⟩ v,.bool r.1.isSome])∧OwnR w' w.heap.size v (r.1.getD Frm.zero).t∧Below w.heap.size w w'

theorem take_nil (w:World):Calls Tryz.prog 93 #[.string ⟨([]:List UInt8).toArray⟩] w (TookA (tkAll []) w):=by
 go_enter Tryz.func93,Tryz.ntmps93
 go_wp2_with fail
 refine bodyPost_ret (v:=.tuple #[frAgg Frm.zero (.slice none 0 0),.bool false]) (by simp [results,Tryz.results93,go_sem,frAgg,Frm.zero,Val.zero]) rfl ⟨_,rfl,ownR_nil _ _,?_⟩
 exact (Below.refl _ _).alloc (Nat.le_refl _) _

theorem take_kind (x:UInt8) (b:List UInt8) (hk:x.toNat < 1∨4 < x.toNat) (w:World):Calls Tryz.prog 93 #[.string ⟨(x :: b).toArray⟩] w (TookA (tkAll (x :: b)) w):=by
 have HQ:Hid (tkAll (x :: b)=(none,0,0)):=by show _=_; unfold tkAll; simp only; rw [if_pos hk]
 have hx0:0 < (⟨(x :: b).toArray⟩ : ByteArray).size:=by rw [size_bytes]; simp
 have hi:=fun w => isKind_any (((⟨(x :: b).toArray⟩ : ByteArray)[0]'hx0).toNat:Int) w
 rw [show (decide ((1:Int)≤(((⟨(x :: b).toArray⟩ : ByteArray)[0]'hx0).toNat:Int)) && decide ((((⟨(x :: b).toArray⟩ : ByteArray)[0]'hx0).toNat:Int)≤4))=false by
  show (decide ((1:Int)≤(x.toNat:Int)) && decide ((x.toNat:Int)≤4))=false
  simp; omega] at hi
 have HI:=hZq hi
 have h256:((⟨(x :: b).toArray⟩ : ByteArray)[0]'hx0).toNat < 256:=UInt8.toNat_lt _
 clear hi hk
 go_enter Tryz.func93,Tryz.ntmps93
 go_wp2_with fail
 refine (HI.out _).mono ?_
 rintro e w1 ⟨rfl,rfl⟩
 go_wp2_with fail
 refine bodyPost_ret (v:=.tuple #[frAgg Frm.zero (.slice none 0 0),.bool false]) (by simp [results,Tryz.results93,go_sem,frAgg,Frm.zero,Val.zero]) rfl ⟨_,by rw [HQ.out]; rfl,by rw [HQ.out]; exact ownR_nil _ _,?_⟩
 exact (Below.refl _ _).alloc (Nat.le_refl _) _

theorem take_get (x:UInt8) (b:List UInt8) (hb:(x :: b).length≤4294967296) (hk:¬ (x.toNat < 1∨4 < x.toNat)) {n f er:Nat} (hg:vget (x :: b) 1=(n,f,er)) (he:er ≠ 0) (w:World):Calls Tryz.prog 93 #[.string ⟨(x :: b).toArray⟩] w (TookA (tkAll (x :: b)) w):=by
 have HQ:Hid (tkAll (x :: b)=(none,0,0)):=by show _=_; unfold tkAll; simp only; rw [if_neg hk,hg]; simp [he]
 have hx0:0 < (⟨(x :: b).toArray⟩ : ByteArray).size:=by rw [size_bytes]; simp
 have hi:=fun w => isKind_any (((⟨(x :: b).toArray⟩ : ByteArray)[0]'hx0).toNat:Int) w
 rw [show (decide ((1:Int)≤(((⟨(x :: b).toArray⟩ : ByteArray)[0]'hx0).toNat:Int)) && decide ((((⟨(x :: b).toArray⟩ : ByteArray)[0]'hx0).toNat:Int)≤4))=true by
  show (decide ((1:Int)≤(x.toNat:Int)) && decide ((x.toNat:Int)≤4))=true
  simp; omega] at hi
 have HI:=hZq hi
 have h256:((⟨(x :: b).toArray⟩ : ByteArray)[0]'hx0).toNat < 256:=UInt8.toNat_lt _
 have HG:=hZq fun w => get_eq (x :: b) hb 1 w (hZq hg)
 have t1:((er:Int) != 0)=true:=by rw [bne_iff_ne]; omega
 clear hi hk hg he
 go_enter Tryz.func93,Tryz.ntmps93
 go_wp2_with fail
 refine (HI.out _).mono ?_
 rintro e w1 ⟨rfl,rfl⟩
 go_wp2_with fail
 refine (HG.out _).mono ?_
 rintro e w1 ⟨rfl,rfl⟩
 go_wp2_with fail
 refine bodyPost_ret (v:=.tuple #[frAgg Frm.zero (.slice none 0 0),.bool false]) (by simp [results,Tryz.results93,go_sem,frAgg,Frm.zero,Val.zero]) rfl ⟨_,by rw [HQ.out]; rfl,by rw [HQ.out]; exact ownR_nil _ _,?_⟩
 exact (Below.refl _ _).alloc (Nat.le_refl _) _

end Go.Proofs.YtekkofldhhdpgaaGreat

end

section

namespace Go.Proofs.YtekkofldhhdpgaaGreat
open Go.RowKit

def cellsS {α:Type} (vals:α→List Value) (t:List α):List Value:=(t.map vals).flatten

structure RowOK {α:Type} (P:Program) (vals:α→List Value) (sz:Nat) (zero:α) (T S:TypeId) (Z:Value) (bytes:Nat):Prop where
 len:∀ a,(vals a).length=sz
 one:∀ a,∀ u ∈ vals a,u.oneCell'=true
 pos:0 < sz
 small:sz≤100
 under:P.underlying S=some (.slice T)
 info:(P.info? T).map (fun i => (i.zero,i.size,i.bytes))=some (some Z,sz,bytes)
 zvals:Z.cells.toList=vals zero
 fits:bytes≤4096

section pure
variable {α:Type} {vals:α→List Value} {sz:Nat}

theorem cellsS_nil:cellsS vals []=[]:=rfl
theorem cellsS_cons (r:α) (t:List α):cellsS vals (r :: t)=vals r ++ cellsS vals t:=rfl
theorem cellsS_append (a b:List α):cellsS vals (a ++ b)=cellsS vals a ++ cellsS vals b:=by simp [cellsS]
theorem cellsS_one (r:α):cellsS vals [r]=vals r:=by simp [cellsS]

theorem cellsS_len (hl:∀ a,(vals a).length=sz):∀ t:List α,(cellsS vals t).length=t.length * sz
 | [] => by simp [cellsS]
 | r :: t => by rw [cellsS_cons,List.length_append,hl,cellsS_len hl t,List.length_cons,Nat.add_mul,Nat.one_mul,Nat.add_comm]

theorem cellsS_at (hl:∀ a,(vals a).length=sz) (zero:α):∀ (t:List α) (i j:Nat),i < t.length→j < sz→(cellsS vals t)[i * sz+j]?=(vals (t.getD i zero))[j]?
 | [],i,j,h,_ => by simp at h
 | r :: t,0,j,_,hj => by
  rw [cellsS_cons,Nat.zero_mul,Nat.zero_add,List.getElem?_append_left (by rw [hl]; exact hj)]
  rfl
 | r :: t,i+1,j,h,hj => by
  rw [cellsS_cons,List.getElem?_append_right (by rw [hl,Nat.add_mul]; omega),hl,show (i+1) * sz+j - sz=i * sz+j by rw [Nat.add_mul]; omega,cellsS_at hl zero t i j (by simpa using h) hj]
  rfl

theorem cellsS_take (hl:∀ a,(vals a).length=sz) (u:List α) (o:Nat):(cellsS vals u).take (o * sz)=cellsS vals (u.take o):=by
 have h:=cellsS_append (vals:=vals) (u.take o) (u.drop o)
 rw [List.take_append_drop] at h
 rw [h]
 by_cases ho:o≤u.length
 ·rw [List.take_left' (by rw [cellsS_len hl,List.length_take,Nat.min_eq_left ho])]
 ·have e1:u.drop o=[]:=List.drop_of_length_le (by omega)
  have e2:u.take o=u:=List.take_of_length_le (by omega)
  rw [e1,e2,cellsS_nil,List.append_nil,List.take_of_length_le (by rw [cellsS_len hl]; exact Nat.mul_le_mul_right _ (by omega))]

theorem cellsS_drop (hl:∀ a,(vals a).length=sz) (u:List α) (o:Nat):(cellsS vals u).drop (o * sz)=cellsS vals (u.drop o):=by
 have h:=cellsS_append (vals:=vals) (u.take o) (u.drop o)
 rw [List.take_append_drop] at h
 by_cases ho:o≤u.length
 ·rw [h,List.drop_left' (by rw [cellsS_len hl,List.length_take,Nat.min_eq_left ho])]
 ·have e1:u.drop o=[]:=List.drop_of_length_le (by omega)
  rw [e1,cellsS_nil,List.drop_of_length_le (by rw [cellsS_len hl]; exact Nat.mul_le_mul_right _ (by omega))]

def layS {β:Type} (u:List β) (o:Nat) (ms:List β):List β:=u.take o ++ (ms ++ u.drop (o+ms.length))

def putS {β:Type} (t:List β) (i:Nat) (r:β):List β:=t.take i ++ ([r] ++ t.drop i)

end pure

section rows
variable {α:Type} {P:Program} {vals:α→List Value} {sz:Nat} {zero:α} {T S:TypeId} {Z:Value} {bytes:Nat}

def OwnS (vals:α→List Value) (sz:Nat) (T:TypeId) (w:World) (base:Nat) (v:Value) (t:List α):Prop:=w.ownsRow base T sz v t.length (cellsS vals t)

def OwnCS (sz:Nat) (T:TypeId) (w:World) (base g n cap:Nat) (xs:List Value):Prop:=w.ownsRow base T sz (.slice (some ⟨g,0,none⟩) n cap) n xs

def SrcS (vals:α→List Value) (w:World) (ad:Addr) (ms:List α):Prop:=∀ j u,(cellsS vals ms)[j]?=some u→w.cell? (ad.add j)=some u

def CellsAt (w:World) (b o:Nat) (vs:List Value):Prop:=∀ j u,vs[j]?=some u→w.cell? ⟨b,o+j,none⟩=some u

theorem CellsAt.later {w w':World} {b o:Nat} {vs:List Value} (h:CellsAt w b o vs) (hb:Below w.heap.size w w'):CellsAt w' b o vs:=by
 intro j u hu
 have:=h j u hu
 rw [hb.cell (World.block_lt_of_cell? w _ this)]
 exact this

def RdS (vals:α→List Value) (sz:Nat) (zero:α) (w:World) (v:Value) (l:List α):Prop :=
 ∃ a cap,v=.slice a l.length cap∧l.length≤cap∧cap≤maxLen∧(a=none→cap=0) ∧
  (l=[]∨∃ b off,a=some ⟨b,off,none⟩∧b < w.heap.size∧∀ i,i < l.length→CellsAt w b (off+i * sz) (vals (l.getD i zero)))

theorem RdS.later {w w':World} {v:Value} {l:List α} (h:RdS vals sz zero w v l) (hb:Below w.heap.size w w'):RdS vals sz zero w' v l:=by
 obtain⟨a,cap,h1,h2,h3,h4,h5⟩:=h
 refine ⟨a,cap,h1,h2,h3,h4,?_⟩
 rcases h5 with h5 | ⟨b,off,e,hlt,hc⟩
 ·exact .inl h5
 ·exact .inr ⟨b,off,e,Nat.lt_of_lt_of_le hlt hb.size,fun i hi => (hc i hi).later hb⟩

theorem RdS.row {w wr:World} {a:Option Addr} {n cap:Nat} {l:List α} (h:RdS vals sz zero w (.slice a n cap) l) (hb:Below w.heap.size w wr) (k:Nat) (hk:k < l.length) :
  ∃ b off,a=some ⟨b,off,none⟩∧CellsAt wr b (off+k * sz) (vals (l.getD k zero)):=by
 obtain⟨a',cap',e,_,_,_,h⟩:=h.later hb
 simp only [Value.slice.injEq] at e
 rcases h with h | ⟨b,off,e',_,hc⟩
 ·rw [h] at hk; simp at hk
 ·exact⟨b,off,e.1.trans e',hc k hk⟩

theorem RdS.open' {w:World} {v:Value} {l:List α} (h:RdS vals sz zero w v l):∃ a cap,v=.slice a l.length cap∧l.length≤9223372036854775807:=by
 obtain⟨a,cap,e,h1,h2,_⟩:=h
 unfold maxLen at h2
 exact⟨a,cap,e,by omega⟩

theorem OwnS.alloc {w:World} {base:Nat} {v:Value} {t:List α} (h:OwnS vals sz T w base v t) (o:Obj):OwnS vals sz T (w.alloc o) base v t:=World.ownsRow.alloc h o

theorem OwnS.drew {w:World} {base:Nat} {v:Value} {t:List α} (h:OwnS vals sz T w base v t):OwnS vals sz T w.drew base v t:=World.ownsRow.drew h

theorem OwnS.later {w w':World} {base:Nat} {v:Value} {t:List α} (h:OwnS vals sz T w base v t) (hb:Below w.heap.size w w'):OwnS vals sz T w' base v t:=by
 refine ⟨h.1,?_⟩
 rcases h.2 with h' | ⟨g,cap,cur,h1,h2,h3,h4⟩
 ·exact .inl h'
 ·exact .inr ⟨g,cap,cur,h1,h2,by rw [hb.block g (Array.getElem?_eq_some_iff.1 h3).1]; exact h3,h4⟩

theorem ltS {i n j sz:Nat} (hi:i < n) (hj:j < sz):i * sz+j < n * sz:=by
 have:=Nat.mul_le_mul_right sz (show i+1≤n by omega)
 rw [Nat.add_mul,Nat.one_mul] at this
 omega

theorem OwnS.head {w:World} {base g n cap:Nat} {u:List α} (h:OwnS vals sz T w base (.slice (some ⟨g,0,none⟩) n cap) u):n=u.length∧base≤g∧g < w.heap.size∧n≤cap∧cap≤maxLen∧∃ cur:Array Value,w.heap[g]?=some (.cells cur T (0,0))∧cur.size=cap * sz:=by
 rcases h with ⟨_,⟨h',_⟩ | ⟨g',cap',cur,h',hb,hg,hnc,hcm,hcs,_⟩⟩
 ·simp at h'
 ·simp only [Value.slice.injEq,Option.some.injEq,Addr.mk.injEq,and_true] at h'
  obtain⟨rfl,h2,rfl⟩:=h'
  exact⟨h2,hb,(Array.getElem?_eq_some_iff.1 hg).1,by omega,hcm,cur,hg,hcs⟩

theorem OwnS.cellAt (_D:RowOK P vals sz zero T S Z bytes) {w:World} {base g n cap:Nat} {u:List α} (h:OwnS vals sz T w base (.slice (some ⟨g,0,none⟩) n cap) u) (j:Nat) (hj:j < u.length * sz):w.cell? ⟨g,j,none⟩=(cellsS vals u)[j]?:=by
 have hn:=h.head.1
 subst hn
 exact World.ownsRow.cellAt h j hj

theorem OwnS.frozenAt {w:World} {base g n cap:Nat} {u:List α} (h:OwnS vals sz T w base (.slice (some ⟨g,0,none⟩) n cap) u) (j:Nat):w.frozen? ⟨g,j,none⟩=false:=by
 have hn:=h.head.1
 subst hn
 exact World.ownsRow.frozenAt h j

theorem OwnS.someAt (D:RowOK P vals sz zero T S Z bytes) {w:World} {base g n cap:Nat} {u:List α} (h:OwnS vals sz T w base (.slice (some ⟨g,0,none⟩) n cap) u) (j:Nat) (hj:j < u.length * sz):(w.cell? ⟨g,j,none⟩).isSome=true:=by
 rw [h.cellAt D j hj,List.getElem?_eq_getElem (by rw [cellsS_len D.len]; exact hj)]
 rfl

theorem OwnS.row (D:RowOK P vals sz zero T S Z bytes) {w:World} {base g n cap:Nat} {u:List α} (h:OwnS vals sz T w base (.slice (some ⟨g,0,none⟩) n cap) u) {k:Nat} (hk:k < u.length):CellsAt w g (k * sz) (vals (u.getD k zero)):=by
 intro j x hx
 have hj:j < sz:=by have:=(List.getElem?_eq_some_iff.1 hx).1; rwa [D.len] at this
 rw [h.cellAt D _ (ltS hk hj),cellsS_at D.len zero u k j hk hj,hx]

theorem OwnS.src (D:RowOK P vals sz zero T S Z bytes) {w:World} {base g n cap:Nat} {u:List α} (h:OwnS vals sz T w base (.slice (some ⟨g,0,none⟩) n cap) u) (o k:Nat) (hk:o+k≤u.length):SrcS vals w ⟨g,o * sz,none⟩ ((u.drop o).take k):=by
 intro j x hx
 have hj:=(List.getElem?_eq_some_iff.1 hx).1
 rw [cellsS_len D.len,List.length_take,List.length_drop] at hj
 have h1:min k (u.length - o) * sz≤k * sz:=Nat.mul_le_mul_right _ (Nat.min_le_left _ _)
 have h2:o * sz+k * sz≤u.length * sz:=by rw [← Nat.add_mul]; exact Nat.mul_le_mul_right _ hk
 rw [Addr.add_lit,h.cellAt D _ (by omega),← hx]
 rw [← cellsS_take D.len,← cellsS_drop D.len,List.getElem?_take,if_pos (by omega),List.getElem?_drop]

theorem RdS.src (D:RowOK P vals sz zero T S Z bytes) {w:World} {ad:Addr} {n cap:Nat} {t:List α} (h:RdS vals sz zero w (.slice (some ad) n cap) t):SrcS vals w ad t:=by
 obtain⟨a',cap',e,_,_,_,h⟩:=h
 simp only [Value.slice.injEq] at e
 intro j u hu
 have hj:=(List.getElem?_eq_some_iff.1 hu).1
 rw [cellsS_len D.len] at hj
 rcases h with h | ⟨b,off,e',_,hc⟩
 ·rw [h] at hj; simp at hj
 ·have e2:=e.1.trans e'
  injection e2 with e2
  subst e2
  have hm:j % sz < sz:=Nat.mod_lt _ D.pos
  have hd:j=j / sz * sz+j % sz:=by have:=Nat.div_add_mod j sz; rw [Nat.mul_comm] at this; omega
  have hq:j / sz < t.length:=(Nat.div_lt_iff_lt_mul D.pos).2 hj
  rw [hd,cellsS_at D.len zero t (j / sz) (j % sz) hq hm] at hu
  have:=hc (j / sz) hq (j % sz) u hu
  rw [Addr.add_lit,hd,← Nat.add_assoc]
  exact this

theorem OwnCS.drew {w:World} {base g n cap:Nat} {xs:List Value} (h:OwnCS sz T w base g n cap xs):OwnCS sz T w.drew base g n cap xs:=World.ownsRow.drew h

theorem OwnCS.rows {w:World} {base g cap n:Nat} {t:List α} (h:OwnCS sz T w base g n cap (cellsS vals t)) (hn:n=t.length):OwnS vals sz T w base (.slice (some ⟨g,0,none⟩) n cap) t:=by
 subst hn
 exact h

def LoneS (vals:α→List Value) (T:TypeId) (w:World) (B:Nat) (r:α):Prop:=∃ cs:Array Value,cs.toList=vals r∧w.heap[B]?=some (.cells cs T (0,0))

theorem LoneS.later {w w':World} {B:Nat} {r:α} (h:LoneS vals T w B r) (hb:Below w.heap.size w w'):LoneS vals T w' B r:=by
 obtain⟨cs,h1,h2⟩:=h
 exact⟨cs,h1,(hb.block B (Array.getElem?_eq_some_iff.1 h2).1).trans h2⟩

theorem LoneS.lt {w:World} {B:Nat} {r:α} (h:LoneS vals T w B r):B < w.heap.size:=by
 obtain⟨cs,h1,h2⟩:=h
 exact (Array.getElem?_eq_some_iff.1 h2).1

theorem LoneS.src {w:World} {B:Nat} {r:α} (h:LoneS vals T w B r):SrcS vals w ⟨B,0,none⟩ [r]:=by
 obtain⟨cs,h1,h2⟩:=h
 intro j u hu
 rw [cellsS_one,← h1] at hu
 rw [Addr.add_lit,Nat.zero_add,cell_of_row w B j _ _ (0,0) h2,← hu]
 simp

theorem LoneS.free {w:World} {B:Nat} {r:α} (h:LoneS vals T w B r) (j:Nat):w.frozen? ⟨B,j,none⟩=false:=by
 obtain⟨cs,h1,h2⟩:=h
 exact frozen_of_row w B j _ _ h2

theorem LoneS.shape (hl:∀ a,(vals a).length=sz) {w:World} {B:Nat} {r:α} (h:LoneS vals T w B r):w.shape? B=some (T,sz):=by
 obtain⟨cs,h1,h2⟩:=h
 have hs:cs.size=sz:=by rw [← Array.length_toList,h1,hl]
 simp only [World.shape?,h2,hs]

end rows

end Go.Proofs.YtekkofldhhdpgaaGreat

end

section

namespace Go.Proofs.YtekkofldhhdpgaaGreat
open Go.RowKit

theorem below2Z {w a b:World} (h1:Below w.heap.size w a) (h2:Below a.heap.size a b):Below w.heap.size w b:=h1.trans (h2.mono h1.size)

theorem bl_newZ (w:World) (o:Obj):Below w.heap.size w (w.alloc o):=(Below.refl _ _).alloc (Nat.le_refl _) o

end Go.Proofs.YtekkofldhhdpgaaGreat

end

section

namespace Go.Proofs.YtekkofldhhdpgaaGreat
open Go.RowKit

theorem upQ {w w':World} {b:Nat} {o:Obj} (h:w.heap[b]?=some o) (hb:Below w.heap.size w w'):w'.heap[b]?=some o :=
 (hb.block b (Array.getElem?_eq_some_iff.1 h).1).trans h

theorem newQ (w:World) (o:Obj):(w.alloc o).heap[w.heap.size]?=some o:=(MapKept.heap_alloc w o).1

theorem setCell_size (w:World) (p:Addr) (v:Value):(w.setCell p v).heap.size=w.heap.size:=by
 simp [World.setCell]

def stN1 (w:World) (B:Nat) (y0:Value):World:=w.setCell ⟨B,0,none⟩ y0

def stN2 (w:World) (B:Nat) (y0 y1:Value):World:=(w.setCell ⟨B,0,none⟩ y0).setCell ⟨B,1,none⟩ y1

theorem blk3 {w:World} {B:Nat} {x0 x1 x2:Value} {T:TypeId} (h:w.heap[B]?=some (.cells #[x0,x1,x2] T (0,0))):(w.cell? ⟨B,0,none⟩=some x0∧w.cell? ⟨B,1,none⟩=some x1∧w.cell? ⟨B,2,none⟩=some x2)∧(w.frozen? ⟨B,0,none⟩=false∧w.frozen? ⟨B,1,none⟩=false∧w.frozen? ⟨B,2,none⟩=false) :=
 ⟨⟨cell_of_row w B 0 _ _ (0,0) h,cell_of_row w B 1 _ _ (0,0) h,cell_of_row w B 2 _ _ (0,0) h⟩,⟨frozen_of_row w B 0 _ _ h,frozen_of_row w B 1 _ _ h,frozen_of_row w B 2 _ _ h⟩⟩

def stN3 (w:World) (B:Nat) (y0 y1 y2:Value):World:=((w.setCell ⟨B,0,none⟩ y0).setCell ⟨B,1,none⟩ y1).setCell ⟨B,2,none⟩ y2

theorem stN3_heap {w:World} {B:Nat} {x0 x1 x2:Value} {T:TypeId} (h:w.heap[B]?=some (.cells #[x0,x1,x2] T (0,0))) (y0 y1 y2:Value):(stN3 w B y0 y1 y2).heap[B]?=some (.cells #[y0,y1,y2] T (0,0)):=by
 have h0:(w.setCell ⟨B,0,none⟩ y0).heap[B]?=some (.cells #[y0,x1,x2] T (0,0)):=heap_setCell_same w B 0 _ _ y0 h
 have h1:((w.setCell ⟨B,0,none⟩ y0).setCell ⟨B,1,none⟩ y1).heap[B]?=some (.cells #[y0,y1,x2] T (0,0)):=heap_setCell_same _ B 1 _ _ y1 h0
 have h2:(((w.setCell ⟨B,0,none⟩ y0).setCell ⟨B,1,none⟩ y1).setCell ⟨B,2,none⟩ y2).heap[B]?=some (.cells #[y0,y1,y2] T (0,0)):=heap_setCell_same _ B 2 _ _ y2 h1
 exact h2

theorem stN3_far (w:World) (B:Nat) (y0 y1 y2:Value) {k:Nat} (hk:¬ k=B):(stN3 w B y0 y1 y2).heap[k]?=w.heap[k]?:=by
 unfold stN3
 rw [Below.heap_setCell _ _ _ k hk,Below.heap_setCell _ _ _ k hk,Below.heap_setCell _ _ _ k hk]

theorem stN3_below {w0 w:World} {n B:Nat} (h:Below n w0 w) (hB:n≤B) (y0 y1 y2:Value):Below n w0 (stN3 w B y0 y1 y2):=by
 unfold stN3
 exact ((h.setCell hB _).setCell hB _).setCell hB _

theorem stN3_size (w:World) (B:Nat) (y0 y1 y2:Value):(stN3 w B y0 y1 y2).heap.size=w.heap.size:=by
 unfold stN3
 simp only [setCell_size]

theorem blk4 {w:World} {B:Nat} {x0 x1 x2 x3:Value} {T:TypeId} (h:w.heap[B]?=some (.cells #[x0,x1,x2,x3] T (0,0))):(w.cell? ⟨B,0,none⟩=some x0∧w.cell? ⟨B,1,none⟩=some x1∧w.cell? ⟨B,2,none⟩=some x2∧w.cell? ⟨B,3,none⟩=some x3)∧(w.frozen? ⟨B,0,none⟩=false∧w.frozen? ⟨B,1,none⟩=false∧w.frozen? ⟨B,2,none⟩=false∧w.frozen? ⟨B,3,none⟩=false) :=
 ⟨⟨cell_of_row w B 0 _ _ (0,0) h,cell_of_row w B 1 _ _ (0,0) h,cell_of_row w B 2 _ _ (0,0) h,cell_of_row w B 3 _ _ (0,0) h⟩,⟨frozen_of_row w B 0 _ _ h,frozen_of_row w B 1 _ _ h,frozen_of_row w B 2 _ _ h,frozen_of_row w B 3 _ _ h⟩⟩

def stN4 (w:World) (B:Nat) (y0 y1 y2 y3:Value):World:=(((w.setCell ⟨B,0,none⟩ y0).setCell ⟨B,1,none⟩ y1).setCell ⟨B,2,none⟩ y2).setCell ⟨B,3,none⟩ y3

def stN5 (w:World) (B:Nat) (y0 y1 y2 y3 y4:Value):World:=((((w.setCell ⟨B,0,none⟩ y0).setCell ⟨B,1,none⟩ y1).setCell ⟨B,2,none⟩ y2).setCell ⟨B,3,none⟩ y3).setCell ⟨B,4,none⟩ y4

def stN6 (w:World) (B:Nat) (y0 y1 y2 y3 y4 y5:Value):World:=(((((w.setCell ⟨B,0,none⟩ y0).setCell ⟨B,1,none⟩ y1).setCell ⟨B,2,none⟩ y2).setCell ⟨B,3,none⟩ y3).setCell ⟨B,4,none⟩ y4).setCell ⟨B,5,none⟩ y5

def stN7 (w:World) (B:Nat) (y0 y1 y2 y3 y4 y5 y6:Value):World:=((((((w.setCell ⟨B,0,none⟩ y0).setCell ⟨B,1,none⟩ y1).setCell ⟨B,2,none⟩ y2).setCell ⟨B,3,none⟩ y3).setCell ⟨B,4,none⟩ y4).setCell ⟨B,5,none⟩ y5).setCell ⟨B,6,none⟩ y6

def stN8 (w:World) (B:Nat) (y0 y1 y2 y3 y4 y5 y6 y7:Value):World:=(((((((w.setCell ⟨B,0,none⟩ y0).setCell ⟨B,1,none⟩ y1).setCell ⟨B,2,none⟩ y2).setCell ⟨B,3,none⟩ y3).setCell ⟨B,4,none⟩ y4).setCell ⟨B,5,none⟩ y5).setCell ⟨B,6,none⟩ y6).setCell ⟨B,7,none⟩ y7

theorem blk10 {w:World} {B:Nat} {x0 x1 x2 x3 x4 x5 x6 x7 x8 x9:Value} {T:TypeId} (h:w.heap[B]?=some (.cells #[x0,x1,x2,x3,x4,x5,x6,x7,x8,x9] T (0,0))):(w.cell? ⟨B,0,none⟩=some x0∧w.cell? ⟨B,1,none⟩=some x1∧w.cell? ⟨B,2,none⟩=some x2∧w.cell? ⟨B,3,none⟩=some x3∧w.cell? ⟨B,4,none⟩=some x4∧w.cell? ⟨B,5,none⟩=some x5∧w.cell? ⟨B,6,none⟩=some x6∧w.cell? ⟨B,7,none⟩=some x7∧w.cell? ⟨B,8,none⟩=some x8∧w.cell? ⟨B,9,none⟩=some x9)∧(w.frozen? ⟨B,0,none⟩=false∧w.frozen? ⟨B,1,none⟩=false∧w.frozen? ⟨B,2,none⟩=false∧w.frozen? ⟨B,3,none⟩=false∧w.frozen? ⟨B,4,none⟩=false∧w.frozen? ⟨B,5,none⟩=false∧w.frozen? ⟨B,6,none⟩=false∧w.frozen? ⟨B,7,none⟩=false∧w.frozen? ⟨B,8,none⟩=false∧w.frozen? ⟨B,9,none⟩=false) :=
 ⟨⟨cell_of_row w B 0 _ _ (0,0) h,cell_of_row w B 1 _ _ (0,0) h,cell_of_row w B 2 _ _ (0,0) h,cell_of_row w B 3 _ _ (0,0) h,cell_of_row w B 4 _ _ (0,0) h,cell_of_row w B 5 _ _ (0,0) h,cell_of_row w B 6 _ _ (0,0) h,cell_of_row w B 7 _ _ (0,0) h,cell_of_row w B 8 _ _ (0,0) h,cell_of_row w B 9 _ _ (0,0) h⟩,⟨frozen_of_row w B 0 _ _ h,frozen_of_row w B 1 _ _ h,frozen_of_row w B 2 _ _ h,frozen_of_row w B 3 _ _ h,frozen_of_row w B 4 _ _ h,frozen_of_row w B 5 _ _ h,frozen_of_row w B 6 _ _ h,frozen_of_row w B 7 _ _ h,frozen_of_row w B 8 _ _ h,frozen_of_row w B 9 _ _ h⟩⟩

def stN10 (w:World) (B:Nat) (y0 y1 y2 y3 y4 y5 y6 y7 y8 y9:Value):World:=(((((((((w.setCell ⟨B,0,none⟩ y0).setCell ⟨B,1,none⟩ y1).setCell ⟨B,2,none⟩ y2).setCell ⟨B,3,none⟩ y3).setCell ⟨B,4,none⟩ y4).setCell ⟨B,5,none⟩ y5).setCell ⟨B,6,none⟩ y6).setCell ⟨B,7,none⟩ y7).setCell ⟨B,8,none⟩ y8).setCell ⟨B,9,none⟩ y9

theorem stN10_heap {w:World} {B:Nat} {x0 x1 x2 x3 x4 x5 x6 x7 x8 x9:Value} {T:TypeId} (h:w.heap[B]?=some (.cells #[x0,x1,x2,x3,x4,x5,x6,x7,x8,x9] T (0,0))) (y0 y1 y2 y3 y4 y5 y6 y7 y8 y9:Value):(stN10 w B y0 y1 y2 y3 y4 y5 y6 y7 y8 y9).heap[B]?=some (.cells #[y0,y1,y2,y3,y4,y5,y6,y7,y8,y9] T (0,0)):=by
 have h0:(w.setCell ⟨B,0,none⟩ y0).heap[B]?=some (.cells #[y0,x1,x2,x3,x4,x5,x6,x7,x8,x9] T (0,0)):=heap_setCell_same w B 0 _ _ y0 h
 have h1:((w.setCell ⟨B,0,none⟩ y0).setCell ⟨B,1,none⟩ y1).heap[B]?=some (.cells #[y0,y1,x2,x3,x4,x5,x6,x7,x8,x9] T (0,0)):=heap_setCell_same _ B 1 _ _ y1 h0
 have h2:(((w.setCell ⟨B,0,none⟩ y0).setCell ⟨B,1,none⟩ y1).setCell ⟨B,2,none⟩ y2).heap[B]?=some (.cells #[y0,y1,y2,x3,x4,x5,x6,x7,x8,x9] T (0,0)):=heap_setCell_same _ B 2 _ _ y2 h1
 have h3:((((w.setCell ⟨B,0,none⟩ y0).setCell ⟨B,1,none⟩ y1).setCell ⟨B,2,none⟩ y2).setCell ⟨B,3,none⟩ y3).heap[B]?=some (.cells #[y0,y1,y2,y3,x4,x5,x6,x7,x8,x9] T (0,0)):=heap_setCell_same _ B 3 _ _ y3 h2
 have h4:(((((w.setCell ⟨B,0,none⟩ y0).setCell ⟨B,1,none⟩ y1).setCell ⟨B,2,none⟩ y2).setCell ⟨B,3,none⟩ y3).setCell ⟨B,4,none⟩ y4).heap[B]?=some (.cells #[y0,y1,y2,y3,y4,x5,x6,x7,x8,x9] T (0,0)):=heap_setCell_same _ B 4 _ _ y4 h3
 have h5:((((((w.setCell ⟨B,0,none⟩ y0).setCell ⟨B,1,none⟩ y1).setCell ⟨B,2,none⟩ y2).setCell ⟨B,3,none⟩ y3).setCell ⟨B,4,none⟩ y4).setCell ⟨B,5,none⟩ y5).heap[B]?=some (.cells #[y0,y1,y2,y3,y4,y5,x6,x7,x8,x9] T (0,0)):=heap_setCell_same _ B 5 _ _ y5 h4
 have h6:(((((((w.setCell ⟨B,0,none⟩ y0).setCell ⟨B,1,none⟩ y1).setCell ⟨B,2,none⟩ y2).setCell ⟨B,3,none⟩ y3).setCell ⟨B,4,none⟩ y4).setCell ⟨B,5,none⟩ y5).setCell ⟨B,6,none⟩ y6).heap[B]?=some (.cells #[y0,y1,y2,y3,y4,y5,y6,x7,x8,x9] T (0,0)):=heap_setCell_same _ B 6 _ _ y6 h5
 have h7:((((((((w.setCell ⟨B,0,none⟩ y0).setCell ⟨B,1,none⟩ y1).setCell ⟨B,2,none⟩ y2).setCell ⟨B,3,none⟩ y3).setCell ⟨B,4,none⟩ y4).setCell ⟨B,5,none⟩ y5).setCell ⟨B,6,none⟩ y6).setCell ⟨B,7,none⟩ y7).heap[B]?=some (.cells #[y0,y1,y2,y3,y4,y5,y6,y7,x8,x9] T (0,0)):=heap_setCell_same _ B 7 _ _ y7 h6
 have h8:(((((((((w.setCell ⟨B,0,none⟩ y0).setCell ⟨B,1,none⟩ y1).setCell ⟨B,2,none⟩ y2).setCell ⟨B,3,none⟩ y3).setCell ⟨B,4,none⟩ y4).setCell ⟨B,5,none⟩ y5).setCell ⟨B,6,none⟩ y6).setCell ⟨B,7,none⟩ y7).setCell ⟨B,8,none⟩ y8).heap[B]?=some (.cells #[y0,y1,y2,y3,y4,y5,y6,y7,y8,x9] T (0,0)):=heap_setCell_same _ B 8 _ _ y8 h7
 have h9:((((((((((w.setCell ⟨B,0,none⟩ y0).setCell ⟨B,1,none⟩ y1).setCell ⟨B,2,none⟩ y2).setCell ⟨B,3,none⟩ y3).setCell ⟨B,4,none⟩ y4).setCell ⟨B,5,none⟩ y5).setCell ⟨B,6,none⟩ y6).setCell ⟨B,7,none⟩ y7).setCell ⟨B,8,none⟩ y8).setCell ⟨B,9,none⟩ y9).heap[B]?=some (.cells #[y0,y1,y2,y3,y4,y5,y6,y7,y8,y9] T (0,0)):=heap_setCell_same _ B 9 _ _ y9 h8
 exact h9

theorem stN10_far (w:World) (B:Nat) (y0 y1 y2 y3 y4 y5 y6 y7 y8 y9:Value) {k:Nat} (hk:¬ k=B):(stN10 w B y0 y1 y2 y3 y4 y5 y6 y7 y8 y9).heap[k]?=w.heap[k]?:=by
 unfold stN10
 rw [Below.heap_setCell _ _ _ k hk,Below.heap_setCell _ _ _ k hk,Below.heap_setCell _ _ _ k hk,Below.heap_setCell _ _ _ k hk,Below.heap_setCell _ _ _ k hk,Below.heap_setCell _ _ _ k hk,Below.heap_setCell _ _ _ k hk,Below.heap_setCell _ _ _ k hk,Below.heap_setCell _ _ _ k hk,Below.heap_setCell _ _ _ k hk]

theorem stN10_below {w0 w:World} {n B:Nat} (h:Below n w0 w) (hB:n≤B) (y0 y1 y2 y3 y4 y5 y6 y7 y8 y9:Value):Below n w0 (stN10 w B y0 y1 y2 y3 y4 y5 y6 y7 y8 y9):=by
 unfold stN10
 exact (((((((((h.setCell hB _).setCell hB _).setCell hB _).setCell hB _).setCell hB _).setCell hB _).setCell hB _).setCell hB _).setCell hB _).setCell hB _

def stN13 (w:World) (B:Nat) (y0 y1 y2 y3 y4 y5 y6 y7 y8 y9 y10 y11 y12:Value):World:=((((((((((((w.setCell ⟨B,0,none⟩ y0).setCell ⟨B,1,none⟩ y1).setCell ⟨B,2,none⟩ y2).setCell ⟨B,3,none⟩ y3).setCell ⟨B,4,none⟩ y4).setCell ⟨B,5,none⟩ y5).setCell ⟨B,6,none⟩ y6).setCell ⟨B,7,none⟩ y7).setCell ⟨B,8,none⟩ y8).setCell ⟨B,9,none⟩ y9).setCell ⟨B,10,none⟩ y10).setCell ⟨B,11,none⟩ y11).setCell ⟨B,12,none⟩ y12

end Go.Proofs.YtekkofldhhdpgaaGreat

end

section

namespace Go.Proofs.YtekkofldhhdpgaaGreat
open Go.RowKit

def heldB (X:World) (bs:List (Nat × List Value)):Prop:=∀ p ∈ bs,CellsAt X p.1 0 p.2

theorem heldB_nil (X:World):heldB X []:=fun p h => by cases h
theorem heldB_cons {X:World} {b:Nat} {vs:List Value} {bs:List (Nat × List Value)} (h:CellsAt X b 0 vs) (ht:heldB X bs):heldB X ((b,vs) :: bs):=fun p hp => by
 rcases List.mem_cons.1 hp with rfl | hp
 ·exact h
 ·exact ht p hp
theorem heldB_up {W X:World} {bs:List (Nat × List Value)} (hb:Below W.heap.size W X) (h:heldB W bs):heldB X bs:=fun p hp => (h p hp).later hb
theorem heldB_get {X:World} {bs:List (Nat × List Value)} (h:heldB X bs) {b:Nat} {vs:List Value} {i:Nat} {v:Value} (hm:(b,vs) ∈ bs) (hi:vs[i]?=some v):X.cell? ⟨b,i,none⟩=some v:=by
 have:=h _ hm i v hi
 rwa [Nat.zero_add] at this

def heldD (X:World) (bs:List (Nat × List Value)) (b off:Nat) (v:Value):Prop:=heldB X bs∧X.cell? ⟨b,off,none⟩=some v

theorem cellsAt_block {X:World} {b:Nat} {cs:Array Value} {T:TypeId} (h:X.heap[b]?=some (.cells cs T (0,0))):CellsAt X b 0 cs.toList:=by
 intro j u hu
 have hj:cs[j]?=some u:=by rw [← hu]; simp
 rw [Nat.zero_add]
 unfold World.cell?
 rw [h]
 simpa using hj

end Go.Proofs.YtekkofldhhdpgaaGreat

end
