/-
 TEXTS OF THE PROOF, one behind the other: LnkW, Row, RowA, RepMem, LnkLive, LnkP, LnkToldP, RepFit, RepTell, RepRound, RepSettle, RepLive.
-/
import Derived.Test.YtmpigdokghngiaaGreatQ23
import Derived.Test.YtmpigdokghngiaaGreatQ20
import Derived.Test.YtmpigdokghngiaaGreatQ05
import Derived.Deep.MidRow
import Derived.Below
import Derived.Test.YtmpigdokghngiaaGreatProg
import Derived.Test.YtmpigdokghngiaaGreatQ04
import Derived.Lib.Hide
import Derived.Deep.Cut
import Derived.BigFrame
import Derived.Test.YtmpigdokghngiaaGreatQ16
import Derived.Test.YtmpigdokghngiaaGreatQ15
import Derived.Test.YtmpigdokghngiaaGreatQ14
import Derived.Test.YtmpigdokghngiaaGreatQ19

set_option maxHeartbeats 12800000
set_option maxRecDepth 100000

namespace Go.Proofs.YtmpigdokghngiaaGreat
section
open Go.RowKit

theorem lemit_eq {w:World} {v vt:Value} {ql:List Chg} {view:List Row} (hv:Chgs w v ql) (ht:Tab w vt view) (hs:ShortC ql) (hl:ql.length≤100) (hsh:Short view) (ca cb cd ce seq tok at' dg now:Int) (la sn:Bool)
  {ms mt ma md:Int} {mq:List Chg} {ml mn:Bool} {fs:List Frm} (hr:Hid (lnEmit ⟨ca,cb,cd,ce⟩ ⟨seq,⟨ql,la⟩,⟨tok,at'⟩,sn,dg⟩ view now=(⟨ms,⟨mq,ml⟩,⟨mt,ma⟩,mn,md⟩,fs))) :
  Calls Tryz.prog 67 #[.agg #[.int .i64 ca,.int .i64 cb,.int .i64 cd,.int .i64 ce],.agg #[.int .i64 seq,v,.bool la,.int .i64 tok,.int .i64 at',.bool sn,.int .i64 dg],vt,.int .i64 now] w fun e w' =>
   ∃ u fv ps,e=.returned (.tuple #[.agg #[.int .i64 ms,u,.bool ml,.int .i64 mt,.int .i64 ma,.bool mn,.int .i64 md],fv])∧Chgs w' u mq∧KF w w' fv ps∧ps.map FrS.f=fs∧Below w.heap.size w w' :=
 lemit_any hv ht hs hl hsh ca cb cd ce seq tok at' dg now la sn hr

theorem rlnew_eq (ca cb cd ce now:Int) {ms mt ma md:Int} {ml mn:Bool} {mq:List Chg} {n:Nat} (hr:Hid (lnNew ⟨ca,cb,cd,ce⟩ now=(⟨ms,⟨mq,ml⟩,⟨mt,ma⟩,mn,md⟩,n))) (w:World) :
  Calls Tryz.prog 38 #[.agg #[.int .i64 ca,.int .i64 cb,.int .i64 cd,.int .i64 ce],.int .i64 now] w fun e w' => e=.returned (.tuple #[.agg #[.int .i64 ms,.slice none 0 0,.bool ml,.int .i64 mt,.int .i64 ma,.bool mn,.int .i64 md],.int .i64 n])∧Below w.heap.size w w' :=
 (rlnew_any ca cb cd ce now hr w).mono fun _ _ ⟨h1,_,h3⟩ => ⟨h1,h3⟩

def frCells (f:Frm) (tv:Value):List Value:=[.int .i64 f.k,.int .i64 f.s,.bool f.on,.string ⟨f.c.toArray⟩,.int .i64 f.v.sh,.int .i64 f.v.pr,.int .i64 f.v.si,.string ⟨f.v.st.toArray⟩,.int .u64 f.sum,tv]
end
section
open Go.RowKit

theorem range_whole {w:World} {B:Nat} {cs:List Value} {T:TypeId} (h:w.heap[B]?=some (.cells cs.toArray T (0,0))):w.rangeAt B 0 cs:=fun j v hv => by
 rw [Nat.zero_add,cell_of_row w B j _ _ _ h]
 simpa using hv

theorem setCells_far (B:Nat):∀ (cs:List Value) (o:Nat) (w:World) {k:Nat},¬ k=B→(w.setCells B o cs).heap[k]?=w.heap[k]?
 | [],_,_,_,_ => rfl
 | v :: r,o,w,k,hk => by
  rw [World.setCells,setCells_far B r (o+1) _ hk]
  exact Below.heap_setCell _ _ _ k hk

theorem setCells_sizeR (B:Nat):∀ (cs:List Value) (o:Nat) (w:World),(w.setCells B o cs).heap.size=w.heap.size
 | [],_,_ => rfl
 | v :: r,o,w => by
  rw [World.setCells,setCells_sizeR B r (o+1)]
  simp only [World.setCell,Array.size_modify]

theorem setCells_belowR {w0:World} {n B:Nat} (hB:n≤B):∀ (cs:List Value) (o:Nat) {w:World},Below n w0 w→Below n w0 (w.setCells B o cs)
 | [],_,_,h => h
 | v :: r,o,w,h => by
  rw [World.setCells]
  exact setCells_belowR hB r (o+1) (h.setCell hB _)

theorem setCells_mid {B:Nat} {T:TypeId}:∀ (cs pre xs:List Value) (w:World),w.heap[B]?=some (.cells (pre ++ xs).toArray T (0,0))→cs.length≤xs.length→(w.setCells B pre.length cs).heap[B]?=some (.cells (pre ++ cs ++ xs.drop cs.length).toArray T (0,0))
 | [],pre,xs,w,h,hl => by
  show w.heap[B]?=_
  simpa using h
 | v :: r,pre,x :: xs,w,h,hl => by
  rw [World.setCells]
  have h1:=heap_setCell_same w B pre.length _ _ v h
  have e:((pre ++ x :: xs).toArray.setIfInBounds pre.length v)=((pre ++ [v]) ++ xs).toArray:=by
   simp
  rw [e] at h1
  have:=setCells_mid r (pre ++ [v]) xs _ h1 (by simpa using hl)
  simpa using this
end
section
open Go.RowKit

structure AggTy (ty:TypeId) (n:Nat):Prop where
 row:∃ d,Tryz.prog.underlying ty=some d∧d.isRow=true
 info:(Tryz.prog.info? ty).map (·.size)=some n

theorem ldA {ops:Array Oper} {rest:List Oper} {op:Oper} {a:Act} {w:World} {Q:Exit→Act→World→Prop} {ty:TypeId} {n:Nat} (ht:AggTy ty n) (x:Operand) (hgd:op.guard=none) (ho:op.op=.load ty x)
  (b o:Nat) (hx:a.eval x=.pointer (some ⟨b,o,none⟩)) {all:List Value} {T:TypeId} (h:w.heap[b]?=some (.cells all.toArray T (0,0))) (cs:List Value) (hc:(all.drop o).take n=cs) (hl:cs.length=n)
  (hK:wpList Tryz.prog ops Q rest (a.put op.dst (.agg cs.toArray)) w):wpList Tryz.prog ops Q (op :: rest) a w:=by
 obtain⟨⟨d,hu,hd⟩,hi⟩:=ht
 refine wpList_load_mid hgd ty x ho b o hx cs d (fun j v hv => ?_) hu hd (by rw [hi,hl]) hK
 rw [cell_of_row w b (o+j) _ _ _ h]
 rw [← hc,List.getElem?_take] at hv
 split at hv
 ·rw [List.getElem?_drop] at hv
  simpa using hv
 ·cases hv

theorem ldG {ops:Array Oper} {rest:List Oper} {op:Oper} {a:Act} {w:World} {Q:Exit→Act→World→Prop} {ty:TypeId} {n:Nat} (ht:AggTy ty n) (x:Operand) (hgd:Region.wanted op (yielded ops a.tmps)=true) (ho:op.op=.load ty x)
  (b o:Nat) (hx:a.eval x=.pointer (some ⟨b,o,none⟩)) {all:List Value} {T:TypeId} (h:w.heap[b]?=some (.cells all.toArray T (0,0))) (cs:List Value) (hc:(all.drop o).take n=cs) (hl:cs.length=n)
  (hK:wpList Tryz.prog ops Q rest (a.put op.dst (.agg cs.toArray)) w):wpList Tryz.prog ops Q (op :: rest) a w:=by
 obtain⟨⟨d,hu,hd⟩,hi⟩:=ht
 refine BigFrame.wpList_want hgd fun _ hK2 => wp_load_mid ty x ho b o hx cs d (fun j v hv => ?_) hu hd (by rw [hi,hl]) (hK2 _ _ hK)
 rw [cell_of_row w b (o+j) _ _ _ h]
 rw [← hc,List.getElem?_take] at hv
 split at hv
 ·rw [List.getElem?_drop] at hv
  simpa using hv
 ·cases hv

theorem ldR {ops:Array Oper} {rest:List Oper} {op:Oper} {a:Act} {w:World} {Q:Exit→Act→World→Prop} {ty:TypeId} {n:Nat} (ht:AggTy ty n) (x:Operand) (hgd:op.guard=none) (ho:op.op=.load ty x)
  (b o:Nat) (hx:a.eval x=.pointer (some ⟨b,o,none⟩)) (cs:List Value) (h:CellsAt w b o cs) (hl:cs.length=n)
  (hK:wpList Tryz.prog ops Q rest (a.put op.dst (.agg cs.toArray)) w):wpList Tryz.prog ops Q (op :: rest) a w:=by
 obtain⟨⟨d,hu,hd⟩,hi⟩:=ht
 exact wpList_load_mid hgd ty x ho b o hx cs d h hu hd (by rw [hi,hl]) hK

structure StA (w w':World) (b:Nat) (new:List Value) (T:TypeId):Prop where
 at':w'.heap[b]?=some (.cells new.toArray T (0,0))
 far:∀ k,¬ k=b→w'.heap[k]?=w.heap[k]?
 size:w'.heap.size=w.heap.size
 bel:∀ {w0:World} {n:Nat},Below n w0 w→n≤b→Below n w0 w'

theorem StA.keep {w w':World} {b:Nat} {new:List Value} {T:TypeId} (h:StA w w' b new T) {k:Nat} {o:Obj} (hk:w.heap[k]?=some o) (hn:¬ k=b):w'.heap[k]?=some o:=(h.far k hn).trans hk

theorem stA_mid {w:World} {b o:Nat} {all cs new:List Value} {T:TypeId} (h:w.heap[b]?=some (.cells all.toArray T (0,0))) (hn:o+cs.length≤all.length) (hnew:all.take o ++ cs ++ all.drop (o+cs.length)=new):StA w (w.setCells b o cs) b new T:=by
 refine ⟨?_,fun k hk => setCells_far b cs o w hk,setCells_sizeR b cs o w,fun hb hle => setCells_belowR hle cs o hb⟩
 have e:all=all.take o ++ all.drop o:=(List.take_append_drop o all).symm
 have hl:(all.take o).length=o:=by rw [List.length_take]; omega
 have:=setCells_mid cs (all.take o) (all.drop o) w (by rw [← e]; exact h) (by rw [List.length_drop]; omega)
 rw [hl,List.drop_drop,hnew] at this
 exact this

theorem stA {ops:Array Oper} {rest:List Oper} {op:Oper} {a:Act} {w:World} {Q:Exit→Act→World→Prop} {ty:TypeId} {n:Nat} (ht:AggTy ty n) (x y:Operand) (hgd:op.guard=none) (ho:op.op=.store ty x y)
  (b o:Nat) (hx:a.eval x=.pointer (some ⟨b,o,none⟩)) {all:List Value} {T:TypeId} (h:w.heap[b]?=some (.cells all.toArray T (0,0))) (cs:List Value) (hy:a.eval y=.agg cs.toArray) (hl:cs.length=n) (hn:o+n≤all.length)
  (h1:(cs.all fun v => v.oneCell')=true) (new:List Value) (hnew:all.take o ++ cs ++ all.drop (o+n)=new)
  (hK:∀ w',StA w w' b new T→wpList Tryz.prog ops Q rest (a.put op.dst undef) w'):wpList Tryz.prog ops Q (op :: rest) a w:=by
 obtain⟨-,hi⟩:=ht
 subst hl
 refine wpList_store_mid hgd ty x y ho b o cs.toArray hx hy (fun j hj => ?_) (by rw [hi]; simp) (all_oneCell_toArray fun v hv => by simpa using List.all_eq_true.1 h1 v hv) (hK _ (stA_mid h hn hnew))
 have hj:j < cs.length:=by simpa using hj
 rw [cell_of_row w b (o+j) _ _ _ h,frozen_of_row w b (o+j) _ _ h]
 refine ⟨?_,rfl⟩
 rw [List.getElem?_toArray,List.getElem?_eq_getElem (by omega)]
 rfl

theorem st1 {ops:Array Oper} {rest:List Oper} {op:Oper} {a:Act} {w:World} {Q:Exit→Act→World→Prop} {ty:TypeId} (hi:(Tryz.prog.info? ty).map (·.size)=some 1) (x y:Operand) (hgd:op.guard=none) (ho:op.op=.store ty x y)
  (b o:Nat) (hx:a.eval x=.pointer (some ⟨b,o,none⟩)) {all:List Value} {T:TypeId} (h:w.heap[b]?=some (.cells all.toArray T (0,0))) (v:Value) (hy:a.eval y=v) (hv:v.cells=#[v]) (hn:o+1≤all.length)
  (h1:v.oneCell'=true) (new:List Value) (hnew:all.take o ++ [v] ++ all.drop (o+1)=new)
  (hK:∀ w',StA w w' b new T→wpList Tryz.prog ops Q rest (a.put op.dst undef) w'):wpList Tryz.prog ops Q (op :: rest) a w:=by
 have hs:=run_storeCells_cells (P:=Tryz.prog) b o [v] 0 w (fun j hj => by
   have:j=0:=by simpa using hj
   subst this
   rw [cell_of_row w b _ _ _ _ h,List.getElem?_toArray,List.getElem?_eq_getElem (by omega)]
   rfl) (fun j hj => frozen_of_row w b _ _ _ h) (fun u hu => by rw [List.mem_singleton.1 hu]; exact h1)
 simp only [Nat.add_zero] at hs
 refine wpList_plain hgd fun _ hK2 => ?_
 have hk:=hK2 _ _ (hK _ (stA_mid h hn hnew))
 have e:(storeVar ty ⟨b,o,none⟩ v).run Tryz.prog w=.ok () (w.setCells b o [v]):=by
  cases hq:Tryz.prog.info? ty with
  | none => simp [hq] at hi
  | some i =>
   have hz:i.size=1:=by simpa [hq] using hi
   have hs:=hs
   simp [storeVar,sizeOf,typeInfo,hq,hv,hz,hs]
 unfold Oper.wp execOp
 simp only [ho,hx,hy,Instr.storeAt,Instr.sureAddr,Sem.run_bind,Sem.run_pure,Result.andThen_ok,e]
 exact hk

theorem resA {w:World} {ty:TypeId} {n:Nat} (ht:AggTy ty n) {b:Nat} {cs:List Value} {T:TypeId} (h:w.heap[b]?=some (.cells cs.toArray T (0,0))) (hl:cs.length=n):(loadVar ty ⟨b,0,none⟩).run Tryz.prog w=.ok (.agg cs.toArray) w:=by
 obtain⟨⟨d,hu,hd⟩,hi⟩:=ht
 exact run_loadVar_mid w b 0 ty cs d (range_whole h) hu hd (by rw [hi,hl])

theorem retA {fn:Func} {R:Ending→World→Prop} {a:Act} {w:World} {ty:TypeId} {n:Nat} (ht:AggTy ty n) (k b:Nat) (hf:fn.results=#[ResultVar.cell k ty]) (hk:a.tmps.getD k undef=.pointer (some ⟨b,0,none⟩)) {cs:List Value} {T:TypeId} (h:w.heap[b]?=some (.cells cs.toArray T (0,0))) (hl:cs.length=n) (hd:a.defers=[]) (hR:R (.returned (.agg cs.toArray)) w):bodyPost Tryz.prog fn R .ret a w:=by
 refine bodyPost_ret (v:=.agg cs.toArray) ?_ hd hR
 have hz:=resA ht h hl
 have ha:(asAddr (.pointer (some ⟨b,0,none⟩))).run Tryz.prog w=.ok ⟨b,0,none⟩ w:=by simp [go_sem]
 have hk2:a.tmps[k]?.getD undef=.pointer (some ⟨b,0,none⟩):=by rw [← hk]; simp
 unfold results
 rw [hf]
 simp [hk2,Sem.run_bind,ha,hz]
end
section
open Go.RowKit

def NoStr (w:World) (B:Nat):Prop:=∀ o s,w.cell? ⟨B,o,none⟩ ≠ some (.string s)

theorem noStr_of {w:World} {B:Nat} {l:List Value} {T:TypeId} {fr:Nat × Nat} (h:w.heap[B]?=some (.cells l.toArray T fr)) (hn:∀ v ∈ l,∀ s,v ≠ .string s):NoStr w B:=fun o s he => by
 rw [cell_of_row w B o _ _ _ h] at he
 have hm:=Array.mem_of_getElem? he
 exact hn _ (by simpa using hm) s rfl

theorem cell_far {w W:World} {B b o:Nat} (hfar:∀ k,¬ k=B→W.heap[k]?=w.heap[k]?) (hb:¬ b=B):W.cell? ⟨b,o,none⟩=w.cell? ⟨b,o,none⟩:=World.cell?_of_block (hfar b hb)

theorem Chgs.nostr {w W:World} {v:Value} {l:List Chg} (h:Chgs w v l) {B:Nat} (hn:NoStr w B) (hfar:∀ k,¬ k=B→W.heap[k]?=w.heap[k]?) (hs:W.heap.size=w.heap.size):Chgs W v l:=by
 obtain⟨a,cap,h1,h2,h3,h4,h5⟩:=h
 refine ⟨a,cap,h1,h2,h3,h4,?_⟩
 rcases h5 with h5 | ⟨b,off,e,hlt,hc⟩
 ·exact .inl h5
 ·by_cases hl:l=[]
  ·exact .inl hl
  ·have hpos:0 < l.length:=List.length_pos_iff.2 hl
   have hb:¬ b=B:=fun hb => by
    subst hb
    exact hn _ _ (hc 0 hpos).1
   refine .inr ⟨b,off,e,by omega,fun i hi => ?_⟩
   obtain⟨h0,h1,h2,h3,h4,h5⟩:=hc i hi
   exact⟨(cell_far hfar hb).trans h0,(cell_far hfar hb).trans h1,(cell_far hfar hb).trans h2,(cell_far hfar hb).trans h3,(cell_far hfar hb).trans h4,(cell_far hfar hb).trans h5⟩

theorem Tab.nostr {w W:World} {v:Value} {l:List Row} (h:Tab w v l) {B:Nat} (hn:NoStr w B) (hfar:∀ k,¬ k=B→W.heap[k]?=w.heap[k]?) (hs:W.heap.size=w.heap.size):Tab W v l:=by
 obtain⟨a,cap,h1,h2,h3,h4,h5⟩:=h
 refine ⟨a,cap,h1,h2,h3,h4,?_⟩
 rcases h5 with h5 | ⟨b,off,e,hlt,hc⟩
 ·exact .inl h5
 ·by_cases hl:l=[]
  ·exact .inl hl
  ·have hpos:0 < l.length:=List.length_pos_iff.2 hl
   have hb:¬ b=B:=fun hb => by
    subst hb
    exact hn _ _ (hc 0 hpos).1
   refine .inr ⟨b,off,e,by omega,fun i hi => ?_⟩
   obtain⟨h0,h1,h2,h3,h4⟩:=hc i hi
   exact⟨(cell_far hfar hb).trans h0,(cell_far hfar hb).trans h1,(cell_far hfar hb).trans h2,(cell_far hfar hb).trans h3,(cell_far hfar hb).trans h4⟩

theorem Frms.nostr {w W:World} {v:Value} {l:List FrS} (h:Frms w v l) {B:Nat} (hn:NoStr w B) (hfar:∀ k,¬ k=B→W.heap[k]?=w.heap[k]?) (hs:W.heap.size=w.heap.size):Frms W v l:=by
 obtain⟨⟨a,cap,h1,h2,h3,h4,h5⟩,ht⟩:=h
 refine ⟨⟨a,cap,h1,h2,h3,h4,?_⟩,fun p hp => (ht p hp).nostr hn hfar hs⟩
 rcases h5 with h5 | ⟨b,off,e,hlt,hc⟩
 ·exact .inl h5
 ·by_cases hl:l=[]
  ·exact .inl hl
  ·have hpos:0 < l.length:=List.length_pos_iff.2 hl
   have hb:¬ b=B:=fun hb => by
    subst hb
    exact hn _ _ (hc 0 hpos 3 _ rfl)
   exact .inr ⟨b,off,e,by omega,fun i hi j u hu => (cell_far hfar hb).trans (hc i hi j u hu)⟩

def noTx:List Value→Bool:=fun l => l.all fun v => match v with | .string _ => false | _ => true

theorem noTx_str {w:World} {B:Nat} {l:List Value} {T:TypeId} (h:w.heap[B]?=some (.cells l.toArray T (0,0))) (hn:noTx l=true):NoStr w B:=noStr_of h fun v hv s e => by
 have:=List.all_eq_true.1 hn v hv
 rw [e] at this
 cases this

theorem Chgs.sta {w W:World} {v:Value} {l:List Chg} (h:Chgs w v l) {B:Nat} {new old:List Value} {T T2:TypeId} (hs:StA w W B new T) (ho:w.heap[B]?=some (.cells old.toArray T2 (0,0))) (hn:noTx old=true):Chgs W v l:=h.nostr (noTx_str ho hn) hs.far hs.size
theorem Tab.sta {w W:World} {v:Value} {l:List Row} (h:Tab w v l) {B:Nat} {new old:List Value} {T T2:TypeId} (hs:StA w W B new T) (ho:w.heap[B]?=some (.cells old.toArray T2 (0,0))) (hn:noTx old=true):Tab W v l:=h.nostr (noTx_str ho hn) hs.far hs.size
theorem Frms.sta {w W:World} {v:Value} {l:List FrS} (h:Frms w v l) {B:Nat} {new old:List Value} {T T2:TypeId} (hs:StA w W B new T) (ho:w.heap[B]?=some (.cells old.toArray T2 (0,0))) (hn:noTx old=true):Frms W v l:=h.nostr (noTx_str ho hn) hs.far hs.size
end
section
open Go.RowKit
end
section
open Go.RowKit

theorem fewt_eqL {w:World} {v:Value} {t:List Row} (hv:Tab w v t) {r:Bool} (h:Hid (fewT t=r)) :
  Calls Tryz.prog 10 #[v] w fun e w' => e=.returned (.bool r)∧Below w.heap.size w w':=by
 rw [← h.out]
 exact (fewt_any hv).mono fun _ _ ⟨he,hw⟩ => ⟨he,hw ▸ Below.refl _ _⟩
end
section
open Go.RowKit

theorem frMay_ways {f:Frm} (h:frMay f=true) (hk:f.k≤3) :
  (f.k=1∧f.sum=0∧f.t=[]∧idIs f.c=true∧(if f.on=true then vaMay f.v else vSame f.v Val.zero)=true)∨(f.k=2∧f.on=false∧f.c=[]∧f.v=Val.zero∧f.t=[])∨(f.k=3∧f.on=false∧f.c=[]∧f.v=Val.zero∧f.sum=0∧diMay f.t=true):=by
 unfold frMay at h
 simp only [Bool.and_eq_true,decide_eq_true_eq] at h
 obtain⟨⟨k1,_⟩,_,hr⟩:=h
 unfold frRest at hr
 by_cases e1:f.k=1
 ·rw [if_pos e1] at hr
  simp only [Bool.and_eq_true,decide_eq_true_eq] at hr
  exact .inl ⟨e1,hr.1,List.length_eq_zero_iff.1 hr.2.1,hr.2.2.1,hr.2.2.2⟩
 ·rw [if_neg e1] at hr
  by_cases e2:f.k=2
  ·rw [if_pos e2] at hr
   simp only [Bool.and_eq_true,decide_eq_true_eq,Bool.not_eq_true',beq_iff_eq] at hr
   exact .inr (.inl ⟨e2,hr.1.1,hr.1.2.1,vSame_iff.1 hr.1.2.2,List.length_eq_zero_iff.1 hr.2⟩)
  ·rw [if_neg e2] at hr
   have e3:f.k=3:=by omega
   rw [if_pos e3] at hr
   simp only [Bool.and_eq_true,decide_eq_true_eq,Bool.not_eq_true',beq_iff_eq] at hr
   exact .inr (.inr ⟨e3,hr.1.1,hr.1.2.1,vSame_iff.1 hr.1.2.2,hr.2.1,hr.2.2⟩)

theorem row_shortL {r:Row} (h:rowOk r=true):r.c.length≤4294967296∧r.v.st.length≤4294967296:=by
 unfold rowOk at h
 rw [Bool.and_eq_true] at h
 have h1:=(idIs_parts h.1).2.1
 have h2:=h.2
 unfold vaMay stOk at h2
 simp only [Bool.and_eq_true,decide_eq_true_eq] at h2
 have h3:=h2.2.1
 omega

theorem diMay_shortL {t:List Row} (h:diMay t=true):Short t∧t.length≤32:=⟨fun r hr => row_shortL ((diMay_iff.1 h).2.1 r hr),(diMay_iff.1 h).1⟩

theorem chg_small {f:Frm} (h:idIs f.c=true) (h2:(if f.on=true then vaMay f.v else vSame f.v Val.zero)=true):f.c.length≤60∧f.v.st.length≤100:=by
 have h1:=(idIs_parts h).2.1
 split at h2
 ·unfold vaMay stOk at h2
  simp only [Bool.and_eq_true,decide_eq_true_eq] at h2
  have h3:=h2.2.1
  omega
 ·have:=vSame_iff.1 h2
  rw [this]
  exact⟨by omega,by decide⟩
end
section
open Go.RowKit

theorem frMay_fit {f:Frm} (h:frMay f=true) (hk:f.k≤3):f.c.length≤4294967296∧f.v.st.length≤4294967296∧Short f.t∧f.t.length≤1000∧(Lit.int .i64 f.k).wf=true:=by
 have h1:=(frMay_iff.1 h).k1
 have hw:(Lit.int .i64 f.k).wf=true:=by
  have:f.k=1∨f.k=2∨f.k=3:=by omega
  rcases this with e | e | e <;> (rw [e]; rfl)
 have hz:Val.zero.st.length≤4294967296:=by decide
 have h0:Short ([]:List Row):=fun r hr => by cases hr
 rcases frMay_ways h hk with ⟨_,_,e,i1,i2⟩ | ⟨_,_,e1,e2,e3⟩ | ⟨_,_,e1,e2,_,e3⟩
 ·obtain⟨c1,c2⟩:=chg_small i1 i2
  rw [e]
  exact⟨by omega,by omega,h0,by simp,hw⟩
 ·rw [e1,e2,e3]
  exact⟨by simp,hz,h0,by simp,hw⟩
 ·obtain⟨s1,s2⟩:=diMay_shortL e3
  rw [e1,e2]
  exact⟨by simp,hz,s1,by omega,hw⟩

theorem feed_fit {c:Cli} (f:Frm) (hs:Short c.t) (hl:c.t.length≤1000):Short (clFeed c f).t∧(clFeed c f).t.length≤1000:=by
 cases hm:clMay c with
 | true =>
  have h:=clFeed_may f hm
  unfold clMay at h
  simp only [Bool.and_eq_true] at h
  obtain⟨s1,s2⟩:=diMay_shortL h.2
  exact⟨s1,by omega⟩
 | false =>
  have:clTakes c f=false:=by
   unfold clTakes
   rw [hm]
   simp
  unfold clFeed
  rw [if_neg (by rw [this]; decide)]
  exact⟨hs,hl⟩

theorem feeds_fit:∀ (fs:List Frm) {c:Cli},Short c.t→c.t.length≤1000→Short (fs.foldl clFeed c).t∧(fs.foldl clFeed c).t.length≤1000
 | [],_,hs,hl => ⟨hs,hl⟩
 | f :: fs,c,hs,hl => by
  obtain⟨h1,h2⟩:=feed_fit f hs hl
  exact feeds_fit fs h1 h2

theorem emit_fit {cfg:Cfg} {l m:Lnk} {view:List Row} {now:Int} {fs:List Frm} (h:lnEmit cfg l view now=(m,fs)) (hs:ShortC l.q.l) (hl:l.q.l.length≤100):ShortC m.q.l∧m.q.l.length≤100∧∀ f ∈ fs,frMay f=true∧f.k≤3:=by
 unfold lnEmit at h
 split at h
 ·rename_i hc
  simp only [Bool.and_eq_true] at hc
  obtain⟨h1,h2,h3⟩:=hc
  obtain⟨r1,r2,r3,r4⟩:=run_may h2 h3 65 l h1
  rw [h] at r1 r2 r3 r4
  obtain⟨s1,s2,-⟩:=lnMay_short r1
  refine ⟨s1,by simp only at s2; omega,fun f hf => ?_⟩
  obtain⟨i,hi,rfl⟩:=List.getElem_of_mem hf
  exact⟨(r4 i hi).1,(r4 i hi).2.2⟩
 ·simp only [Prod.mk.injEq] at h
  obtain⟨rfl,rfl⟩:=h
  exact⟨hs,hl,fun f hf => by cases hf⟩

structure RpFit (s:Lnk × Cli):Prop where
 sc:ShortC s.1.q.l
 ql:s.1.q.l.length≤100
 st:Short s.2.t
 tl:s.2.t.length≤1000

theorem ask_fit {l:Lnk} {b:Bool} (hs:ShortC l.q.l) (hl:l.q.l.length≤100):ShortC (if b=true then lnAsk l else l).q.l∧(if b=true then lnAsk l else l).q.l.length≤100:=by
 cases b
 ·exact⟨hs,hl⟩
 ·exact⟨fun x hx => by simp [lnAsk] at hx,by simp [lnAsk]⟩

theorem round_fit {cfg:Cfg} {view:List Row} {now:Int} {s:Lnk × Cli} (h:RpFit s):RpFit (rpRound cfg view now s):=by
 obtain⟨m,fs,he⟩ : ∃ m fs,lnEmit cfg s.1 view now=(m,fs):=⟨_,_,rfl⟩
 obtain⟨e1,e2,_⟩:=emit_fit he h.sc h.ql
 obtain⟨f1,f2⟩:=feeds_fit fs h.st h.tl
 obtain⟨a1,a2⟩:=ask_fit (b:=(fs.foldl clFeed s.2).o && clMay (fs.foldl clFeed s.2)) e1 e2
 unfold rpRound
 rw [he]
 exact⟨a1,a2,f1,f2⟩

theorem settle_fit {cfg:Cfg} {view:List Row}:∀ (n:Nat) {t:Int} {s:Lnk × Cli},RpFit s→RpFit (rpSettle cfg view n t s)
 | 0,_,_,h => h
 | n+1,_,_,h => settle_fit n (round_fit h)

theorem ask_read {c:Cli} {s:List UInt8} (h:clAsk c=(s,true)) (l:Lnk):rpRead l s=(lnAsk l,0)∧(c.o && clMay c)=true∧s.length≤4294967296:=by
 unfold clAsk at h
 split at h
 ·rename_i hc
  simp only [Bool.and_eq_true] at hc
  simp only [Prod.mk.injEq,and_true] at h
  have hm:=clReq_may hc.2
  have hd:=(frDec_plain hm (by show 0 < _; decide) h).1
  refine ⟨?_,by rw [hc.1,hc.2]; rfl,?_⟩
  ·unfold rpRead
   rw [hd]
   simp only [clReq,if_true]
  ·have:=frPlain_len hm
   rw [← h]
   simp only [cseal,low4,List.length_append,List.length_cons,List.length_nil]
   omega
 ·simp at h

theorem ask_not {c:Cli} {s:List UInt8} (h:clAsk c=(s,false)):(c.o && clMay c)=false:=by
 unfold clAsk at h
 split at h
 ·simp at h
 ·rename_i hc
  cases hb:(c.o && clMay c)
  ·rfl
  ·exact absurd hb hc

theorem round_parts {cfg:Cfg} {view:List Row} {now:Int} {l m:Lnk} {c d:Cli} {fs:List Frm} {s:List UInt8} {r:Bool} (h1:lnEmit cfg l view now=(m,fs)) (h2:fs.foldl clFeed c=d) (h3:clAsk d=(s,r)) :
  rpRound cfg view now (l,c)=((if r=true then (rpRead m s).1 else m),d):=by
 unfold rpRound
 simp only [h1,h2]
 cases r with
 | true =>
  obtain⟨a1,a2,_⟩:=ask_read h3 m
  rw [a2,a1]
 | false =>
  rw [ask_not h3]
  rfl
end
section
open Go.RowKit

theorem aggRound:AggTy 77 17:=⟨⟨_,Tryz.underlying77,rfl⟩,by kernel_rfl⟩

theorem aggCfg:AggTy 23 4:=⟨⟨_,Tryz.underlying23,rfl⟩,by kernel_rfl⟩

theorem aggLink:AggTy 30 7:=⟨⟨_,Tryz.underlying30,rfl⟩,by kernel_rfl⟩

theorem aggCli:AggTy 33 3:=⟨⟨_,Tryz.underlying33,rfl⟩,by kernel_rfl⟩

theorem aggFrame:AggTy 56 10:=⟨⟨_,Tryz.underlying56,rfl⟩,by kernel_rfl⟩

theorem aggSide:AggTy 41 10:=⟨⟨_,Tryz.underlying41,rfl⟩,by kernel_rfl⟩

theorem rptell {w:World} {v cv vv:Value} {ql:List Chg} {ct view:List Row} (hv:Chgs w v ql) (hc:Tab w cv ct) (ht:Tab w vv view) (hs:ShortC ql) (hl:ql.length≤100) (hsh:Short view) (ca cb cd ce seq tok at' dg now nn:Int) (la sn oo:Bool)
  {ms mt ma md:Int} {mq:List Chg} {ml mn:Bool} {fs:List Frm} (hr:Hid (lnEmit ⟨ca,cb,cd,ce⟩ ⟨seq,⟨ql,la⟩,⟨tok,at'⟩,sn,dg⟩ view now=(⟨ms,⟨mq,ml⟩,⟨mt,ma⟩,mn,md⟩,fs))) :
  Calls Tryz.prog 39 #[.agg #[.int .i64 seq,v,.bool la,.int .i64 tok,.int .i64 at',.bool sn,.int .i64 dg,cv,.int .i64 nn,.bool oo,.int .i64 ca,.int .i64 cb,.int .i64 cd,.int .i64 ce,vv,.int .i64 now,.slice none 0 0]] w fun e w' => ∃ u fv ps,e=.returned (.agg #[.int .i64 ms,u,.bool ml,.int .i64 mt,.int .i64 ma,.bool mn,.int .i64 md,cv,.int .i64 nn,.bool oo,.int .i64 ca,.int .i64 cb,.int .i64 cd,.int .i64 ce,vv,.int .i64 now,fv])∧Chgs w' u mq∧Frms w' fv ps∧ps.map FrS.f=fs∧Below w.heap.size w w':=by
 obtain⟨qa,qc,rfl,-⟩:=hv.open'
 obtain⟨ta,tc,rfl,-⟩:=hc.open'
 obtain⟨va,vc,rfl,-⟩:=ht.open'
 obtain⟨XB,RB,HB⟩:=ent2 w (.cells #[.int .i64 seq,.slice qa ql.length qc,.bool la,.int .i64 tok,.int .i64 at',.bool sn,.int .i64 dg,.slice ta ct.length tc,.int .i64 nn,.bool oo,.int .i64 ca,.int .i64 cb,.int .i64 cd,.int .i64 ce,.slice va view.length vc,.int .i64 now,.slice none 0 0] 77) (.cells #[.int .i64 0,.slice none 0 0,.bool false,.int .i64 0,.int .i64 0,.bool false,.int .i64 0,.slice none 0 0,.int .i64 0,.bool false,.int .i64 0,.int .i64 0,.int .i64 0,.int .i64 0,.slice none 0 0,.int .i64 0,.slice none 0 0] 77)
 have HV:=hZq ((hv).later HB.out)
 have HT:=hZq ((ht).later HB.out)
 clear hv hc ht
 go_enter Tryz.func39,Tryz.ntmps39
 have XBk14:=ckZ XB.out 14 _ rfl
 have XBk15:=ckZ XB.out 15 _ rfl
 go_wp2_with (first | (with_reducible refine ldA aggCfg _ rfl rfl (w.heap.size) 10 rfl XB.out [.int .i64 ca,.int .i64 cb,.int .i64 cd,.int .i64 ce] rfl rfl ?_) | (with_reducible refine ldA aggLink _ rfl rfl (w.heap.size) 0 rfl XB.out [.int .i64 seq,.slice qa ql.length qc,.bool la,.int .i64 tok,.int .i64 at',.bool sn,.int .i64 dg] rfl rfl ?_))
 clear XBk14 XBk15
 refine (lemit_eq HV.out HT.out hs hl hsh ca cb cd ce seq tok at' dg now la sn hr).mono ?_
 rintro e w3 ⟨u,fv,ps,rfl,hU,hF,hps,b3⟩
 replace XB:=hZq (upQ XB.out b3)
 replace RB:=hZq (upQ RB.out b3)
 replace HV:=hZq (HV.out.later b3)
 replace HT:=hZq (HT.out.later b3)
 replace HB:=hZq (below2Z HB.out b3)
 clear HV HT
 have HV:=hZq hU
 have HF:=hZq hF.frms
 obtain⟨fa,fc,rfl⟩:=kf_shape hF
 obtain⟨ua,uc,rfl,-⟩:=hU.open'
 clear hU hF
 clear b3
 go_upto_region 2 with (with_reducible refine stA aggLink _ _ rfl rfl (w.heap.size) 0 rfl XB.out [.int .i64 ms,.slice ua mq.length uc,.bool ml,.int .i64 mt,.int .i64 ma,.bool mn,.int .i64 md] rfl rfl (Nat.le_of_ble_eq_true rfl) rfl [.int .i64 ms,.slice ua mq.length uc,.bool ml,.int .i64 mt,.int .i64 ma,.bool mn,.int .i64 md,.slice ta ct.length tc,.int .i64 nn,.bool oo,.int .i64 ca,.int .i64 cb,.int .i64 cd,.int .i64 ce,.slice va view.length vc,.int .i64 now,.slice none 0 0] rfl ?_)
 intro w4 hst
 have HBz:=hZq (hst.bel HB.out (show w.heap.size≤w.heap.size by omega))
 have XBz:=hZq hst.at'
 have RBz:=hZq (hst.keep RB.out (show ¬ w.heap.size+1=w.heap.size by omega))
 have HVz:=hZq (Chgs.sta HV.out hst XB.out rfl)
 have HFz:=hZq (Frms.sta HF.out hst XB.out rfl)
 clear hst HB XB RB HV HF
 have HB:=HBz
 have XB:=XBz
 have RB:=RBz
 have HV:=HVz
 have HF:=HFz
 clear HBz XBz RBz HVz HFz
 go_upto_region 2 with (with_reducible refine st1 (by kernel_rfl) _ _ rfl rfl (w.heap.size) 16 rfl XB.out (.slice fa ps.length fc) rfl rfl (Nat.le_of_ble_eq_true rfl) rfl [.int .i64 ms,.slice ua mq.length uc,.bool ml,.int .i64 mt,.int .i64 ma,.bool mn,.int .i64 md,.slice ta ct.length tc,.int .i64 nn,.bool oo,.int .i64 ca,.int .i64 cb,.int .i64 cd,.int .i64 ce,.slice va view.length vc,.int .i64 now,.slice fa ps.length fc] rfl ?_)
 intro w5 hst
 have HBz:=hZq (hst.bel HB.out (show w.heap.size≤w.heap.size by omega))
 have XBz:=hZq hst.at'
 have RBz:=hZq (hst.keep RB.out (show ¬ w.heap.size+1=w.heap.size by omega))
 have HVz:=hZq (Chgs.sta HV.out hst XB.out rfl)
 have HFz:=hZq (Frms.sta HF.out hst XB.out rfl)
 clear hst HB XB RB HV HF
 have HB:=HBz
 have XB:=XBz
 have RB:=RBz
 have HV:=HVz
 have HF:=HFz
 clear HBz XBz RBz HVz HFz
 go_wp2_with (first | (with_reducible refine ldA aggRound _ rfl rfl (w.heap.size) 0 rfl XB.out [.int .i64 ms,.slice ua mq.length uc,.bool ml,.int .i64 mt,.int .i64 ma,.bool mn,.int .i64 md,.slice ta ct.length tc,.int .i64 nn,.bool oo,.int .i64 ca,.int .i64 cb,.int .i64 cd,.int .i64 ce,.slice va view.length vc,.int .i64 now,.slice fa ps.length fc] rfl rfl ?_) | (with_reducible refine stA aggRound _ _ rfl rfl (w.heap.size+1) 0 rfl RB.out [.int .i64 ms,.slice ua mq.length uc,.bool ml,.int .i64 mt,.int .i64 ma,.bool mn,.int .i64 md,.slice ta ct.length tc,.int .i64 nn,.bool oo,.int .i64 ca,.int .i64 cb,.int .i64 cd,.int .i64 ce,.slice va view.length vc,.int .i64 now,.slice fa ps.length fc] rfl rfl (Nat.le_of_ble_eq_true rfl) rfl [.int .i64 ms,.slice ua mq.length uc,.bool ml,.int .i64 mt,.int .i64 ma,.bool mn,.int .i64 md,.slice ta ct.length tc,.int .i64 nn,.bool oo,.int .i64 ca,.int .i64 cb,.int .i64 cd,.int .i64 ce,.slice va view.length vc,.int .i64 now,.slice fa ps.length fc] rfl ?_))
 intro w6 hst
 have HBz:=hZq (hst.bel HB.out (show w.heap.size≤w.heap.size+1 by omega))
 have XBz:=hZq (hst.keep XB.out (show ¬ w.heap.size=w.heap.size+1 by omega))
 have RBz:=hZq hst.at'
 have HVz:=hZq (Chgs.sta HV.out hst RB.out rfl)
 have HFz:=hZq (Frms.sta HF.out hst RB.out rfl)
 clear hst HB XB RB HV HF
 have HB:=HBz
 have XB:=XBz
 have RB:=RBz
 have HV:=HVz
 have HF:=HFz
 clear HBz XBz RBz HVz HFz
 go_wp2_with fail
 refine retA aggRound _ (w.heap.size+1) Tryz.results39 rfl (cs:=[.int .i64 ms,.slice ua mq.length uc,.bool ml,.int .i64 mt,.int .i64 ma,.bool mn,.int .i64 md,.slice ta ct.length tc,.int .i64 nn,.bool oo,.int .i64 ca,.int .i64 cb,.int .i64 cd,.int .i64 ce,.slice va view.length vc,.int .i64 now,.slice fa ps.length fc]) RB.out rfl rfl ?_
 exact⟨_,_,ps,rfl,HV.out,HF.out,hps,HB.out⟩

theorem frm_at {w W:World} {a:Option Addr} {n c:Nat} {ps:List FrS} (h:Frms w (.slice a n c) ps) (hb:Below w.heap.size w W) {j:Nat} (hj:j < ps.length):∃ b off,a=some ⟨b,off,none⟩∧CellsAt W b (off+j * 10) (frVals (ps.getD j FrS.zero))∧Tab W (ps.getD j FrS.zero).tv (ps.getD j FrS.zero).f.t:=by
 obtain⟨b,off,e,hc⟩:=h.1.row hb j hj
 refine ⟨b,off,e,hc,?_⟩
 rw [List.getD_eq_getElem?_getD,List.getElem?_eq_getElem hj]
 exact (h.2 _ (List.getElem_mem hj)).later hb

theorem rp_fold_next {ps:List FrS} {c:Cli} {j:Nat} (hj:j < ps.length):((ps.map FrS.f).take (j+1)).foldl clFeed c=clFeed (((ps.map FrS.f).take j).foldl clFeed c) (ps.getD j FrS.zero).f:=by
 rw [List.take_add_one,List.foldl_append,List.getElem?_eq_getElem (by simpa using hj)]
 simp [List.getD_eq_getElem?_getD,List.getElem?_eq_getElem hj]

theorem frMay_at {ps:List FrS} (h:∀ f ∈ ps.map FrS.f,frMay f=true∧f.k≤3) {j:Nat} (hj:j < ps.length):frMay (ps.getD j FrS.zero).f=true∧(ps.getD j FrS.zero).f.k≤3:=by
 refine h _ ?_
 rw [List.getD_eq_getElem?_getD,List.getElem?_eq_getElem hj]
 exact List.mem_map_of_mem (List.getElem_mem hj)

theorem rpfeed {w:World} {v cv vv fv:Value} {ql:List Chg} {ct view:List Row} {ps:List FrS} (hv:Chgs w v ql) (hc:Tab w cv ct) (ht:Tab w vv view) (hf:Frms w fv ps) (hsT:Short ct) (hl:ct.length≤1000) (hF:Hid (∀ f ∈ ps.map FrS.f,frMay f=true∧f.k≤3)) (ca cb cd ce seq tok at' dg now nn:Int) (la sn oo:Bool)
  {t2:List Row} {n2:Int} {o2:Bool} (h:Hid ((ps.map FrS.f).foldl clFeed ⟨ct,nn,oo⟩=⟨t2,n2,o2⟩)) :
  Calls Tryz.prog 40 #[.agg #[.int .i64 seq,v,.bool la,.int .i64 tok,.int .i64 at',.bool sn,.int .i64 dg,cv,.int .i64 nn,.bool oo,.int .i64 ca,.int .i64 cb,.int .i64 cd,.int .i64 ce,vv,.int .i64 now,fv]] w fun e w' => ∃ u,e=.returned (.agg #[.int .i64 seq,v,.bool la,.int .i64 tok,.int .i64 at',.bool sn,.int .i64 dg,u,.int .i64 n2,.bool o2,.int .i64 ca,.int .i64 cb,.int .i64 cd,.int .i64 ce,vv,.int .i64 now,fv])∧Tab w' u t2∧Below w.heap.size w w':=by
 obtain⟨qa,qc,rfl,-⟩:=hv.open'
 obtain⟨ta,tc,rfl,-⟩:=hc.open'
 obtain⟨va,vc,rfl,-⟩:=ht.open'
 obtain⟨fa,fc,rfl,hfl⟩:=hf.1.open'
 obtain⟨XB,RB,HB⟩:=ent2 w (.cells #[.int .i64 seq,.slice qa ql.length qc,.bool la,.int .i64 tok,.int .i64 at',.bool sn,.int .i64 dg,.slice ta ct.length tc,.int .i64 nn,.bool oo,.int .i64 ca,.int .i64 cb,.int .i64 cd,.int .i64 ce,.slice va view.length vc,.int .i64 now,.slice fa ps.length fc] 77) (.cells #[.int .i64 0,.slice none 0 0,.bool false,.int .i64 0,.int .i64 0,.bool false,.int .i64 0,.slice none 0 0,.int .i64 0,.bool false,.int .i64 0,.int .i64 0,.int .i64 0,.int .i64 0,.slice none 0 0,.int .i64 0,.slice none 0 0] 77)
 have U:=hZq ((hc).later HB.out)
 have HF:=hZq hf
 clear hv hc ht hf
 go_enter Tryz.func40,Tryz.ntmps40
 have XBk16:=ckZ XB.out 16 _ rfl
 go_wp2_with fail
 clear XBk16
 go_loopw [8] (fun i wr => ∃ (j:Nat) (t:List Row) (n:Int) (o:Bool) (ua:Option Addr) (uc:Nat),j≤ps.length∧i=.int .i64 j∧Hid (((ps.map FrS.f).take j).foldl clFeed ⟨ct,nn,oo⟩=⟨t,n,o⟩)∧Hid (Tab wr (.slice ua t.length uc) t)∧Hid (wr.heap[w.heap.size]?=some (.cells #[.int .i64 seq,.slice qa ql.length qc,.bool la,.int .i64 tok,.int .i64 at',.bool sn,.int .i64 dg,.slice ua t.length uc,.int .i64 n,.bool o,.int .i64 ca,.int .i64 cb,.int .i64 cd,.int .i64 ce,.slice va view.length vc,.int .i64 now,.slice fa ps.length fc] 77 (0,0)))∧Hid (wr.heap[w.heap.size+1]?=some (.cells #[.int .i64 0,.slice none 0 0,.bool false,.int .i64 0,.int .i64 0,.bool false,.int .i64 0,.slice none 0 0,.int .i64 0,.bool false,.int .i64 0,.int .i64 0,.int .i64 0,.int .i64 0,.slice none 0 0,.int .i64 0,.slice none 0 0] 77 (0,0)))∧Hid (Below w.heap.size w wr)) (fun i _ => ps.length - (intOf i).toNat)
 case atStart => exact⟨0,ct,nn,oo,ta,tc,by omega,rfl,hZq rfl,U,XB,RB,HB⟩
 case round =>
  obtain⟨j,t,n,o,ua,uc,hj,rfl,HJ,U2,XB2,RB2,HB2⟩:=hrel
  clear U XB RB HB
  have U:=U2
  have XB:=XB2
  have RB:=RB2
  have HB:=HB2
  clear U2 XB2 RB2 HB2
  by_cases hlt:j < ps.length
  ·have hwj:IntKind.i64.wrap ((j:Int)+1)=(j:Int)+1:=IntWalk.i64_in _ (by omega)
   obtain⟨b,off,rfl,hc,htb⟩:=frm_at HF.out HB.out hlt
   have HM:=hZq (frMay_at hF.out hlt)
   have HN:=hZq (rp_fold_next (c:=⟨ct,nn,oo⟩) hlt)
   have HX:=hZq (feeds_fit ((ps.map FrS.f).take j) (c:=⟨ct,nn,oo⟩) hsT hl)
   generalize ps.getD j FrS.zero=p at hc htb HM HN
   obtain⟨⟨fk,fs,fon,fc2,⟨fsh,fpr,fsi,fst⟩,fsum,ft⟩,ga,gn,gc⟩:=p
   have HC:Hid (CellsAt wr b (off+j * 10) [.int .i64 fk,.int .i64 fs,.bool fon,.string ⟨fc2.toArray⟩,.int .i64 fsh,.int .i64 fpr,.int .i64 fsi,.string ⟨fst.toArray⟩,.int .u64 fsum,.slice ga gn gc]):=hZq hc
   have VT:=hZq htb
   clear hc htb
   have HFIT:=hZq (frMay_fit HM.out.1 HM.out.2)
   have hsz:=(Array.getElem?_eq_some_iff.1 RB.out).1
   have U0:=U
   have b9:=bl_newZ wr (.cells #[.int .i64 0,.int .i64 0,.bool false,.string ⟨#[]⟩,.int .i64 0,.int .i64 0,.int .i64 0,.string ⟨#[]⟩,.int .u64 0,.slice none 0 0] 56)
   have VT0:=VT
   have b11:=bl_newZ wr (.cells #[.int .i64 0,.int .i64 0,.bool false,.string ⟨#[]⟩,.int .i64 0,.int .i64 0,.int .i64 0,.string ⟨#[]⟩,.int .u64 0,.slice none 0 0] 56)
   have FB:=newQ wr (.cells #[.int .i64 0,.int .i64 0,.bool false,.string ⟨#[]⟩,.int .i64 0,.int .i64 0,.int .i64 0,.string ⟨#[]⟩,.int .u64 0,.slice none 0 0] 56)
   have hFB:w.heap.size≤wr.heap.size:=HB.out.size
   replace XB:=hZq (upQ XB.out b11)
   replace RB:=hZq (upQ RB.out b11)
   replace U:=hZq (U.out.later b11)
   replace HB:=hZq (below2Z HB.out b11)
   clear b11
   replace FB:=hZq FB
   replace VT:=hZq (VT.out.later (bl_newZ wr (.cells #[.int .i64 0,.int .i64 0,.bool false,.string ⟨#[]⟩,.int .i64 0,.int .i64 0,.int .i64 0,.string ⟨#[]⟩,.int .u64 0,.slice none 0 0] 56)))
   clear b9
   go_wp2_with (first | (with_reducible refine ldR aggFrame _ rfl rfl (b) (off+j * 10) rfl [.int .i64 fk,.int .i64 fs,.bool fon,.string ⟨fc2.toArray⟩,.int .i64 fsh,.int .i64 fpr,.int .i64 fsi,.string ⟨fst.toArray⟩,.int .u64 fsum,.slice ga gn gc] HC.out rfl ?_) | (with_reducible refine stA aggFrame _ _ rfl rfl (wr.heap.size) 0 rfl FB.out [.int .i64 fk,.int .i64 fs,.bool fon,.string ⟨fc2.toArray⟩,.int .i64 fsh,.int .i64 fpr,.int .i64 fsi,.string ⟨fst.toArray⟩,.int .u64 fsum,.slice ga gn gc] rfl rfl (Nat.le_of_ble_eq_true rfl) rfl [.int .i64 fk,.int .i64 fs,.bool fon,.string ⟨fc2.toArray⟩,.int .i64 fsh,.int .i64 fpr,.int .i64 fsi,.string ⟨fst.toArray⟩,.int .u64 fsum,.slice ga gn gc] rfl ?_))
   intro w12 hst
   have HBz:=hZq (hst.bel HB.out (show w.heap.size≤wr.heap.size by omega))
   have XBz:=hZq (hst.keep XB.out (show ¬ w.heap.size=wr.heap.size by omega))
   have RBz:=hZq (hst.keep RB.out (show ¬ w.heap.size+1=wr.heap.size by omega))
   have FBz:=hZq hst.at'
   have Uz:=hZq (Tab.later U0.out (hst.bel (bl_newZ wr (.cells #[.int .i64 0,.int .i64 0,.bool false,.string ⟨#[]⟩,.int .i64 0,.int .i64 0,.int .i64 0,.string ⟨#[]⟩,.int .u64 0,.slice none 0 0] 56)) (Nat.le_refl _)))
   have VTz:=hZq (Tab.later VT0.out (hst.bel (bl_newZ wr (.cells #[.int .i64 0,.int .i64 0,.bool false,.string ⟨#[]⟩,.int .i64 0,.int .i64 0,.int .i64 0,.string ⟨#[]⟩,.int .u64 0,.slice none 0 0] 56)) (Nat.le_refl _)))
   clear hst HB XB RB FB U VT
   have HB:=HBz
   have XB:=XBz
   have RB:=RBz
   have FB:=FBz
   have U:=Uz
   have VT:=VTz
   clear HBz XBz RBz FBz Uz VTz
   clear U0 VT0 HC
   go_wp2_with (first | (with_reducible refine ldA aggCli _ rfl rfl (w.heap.size) 7 rfl XB.out [.slice ua t.length uc,.int .i64 n,.bool o] rfl rfl ?_) | (with_reducible refine ldA aggFrame _ rfl rfl (wr.heap.size) 0 rfl FB.out [.int .i64 fk,.int .i64 fs,.bool fon,.string ⟨fc2.toArray⟩,.int .i64 fsh,.int .i64 fpr,.int .i64 fsi,.string ⟨fst.toArray⟩,.int .u64 fsum,.slice ga gn gc] rfl rfl ?_))
   obtain⟨t3,n3,o3,h3⟩ : ∃ t3 n3 o3,clFeed ⟨t,n,o⟩ ⟨fk,fs,fon,fc2,⟨fsh,fpr,fsi,fst⟩,fsum,ft⟩=⟨t3,n3,o3⟩:=⟨_,_,_,rfl⟩
   have H3:=hZq h3
   clear h3
   refine (clfeed_any U.out VT.out n o (by have:=HX.out; rw [HJ.out] at this; exact this.1) HFIT.out.2.2.1 HFIT.out.1 HFIT.out.2.1 HFIT.out.2.2.2.2 (by have:=HX.out; rw [HJ.out] at this; exact this.2) HFIT.out.2.2.2.1 H3).mono ?_
   rintro e w13 ⟨u3,rfl,hct,b13⟩
   replace XB:=hZq (upQ XB.out b13)
   replace RB:=hZq (upQ RB.out b13)
   replace FB:=hZq (upQ FB.out b13)
   replace U:=hZq (U.out.later b13)
   replace VT:=hZq (VT.out.later b13)
   replace HB:=hZq (below2Z HB.out b13)
   clear b13
   replace U:=hZq (CT.tab hct U.out VT.out)
   clear hct VT
   obtain⟨ub,uc2,rfl,-⟩:=U.out.open'
   clear FB
   go_wp2_with (with_reducible refine stA aggCli _ _ rfl rfl (w.heap.size) 7 rfl XB.out [.slice ub t3.length uc2,.int .i64 n3,.bool o3] rfl rfl (Nat.le_of_ble_eq_true rfl) rfl [.int .i64 seq,.slice qa ql.length qc,.bool la,.int .i64 tok,.int .i64 at',.bool sn,.int .i64 dg,.slice ub t3.length uc2,.int .i64 n3,.bool o3,.int .i64 ca,.int .i64 cb,.int .i64 cd,.int .i64 ce,.slice va view.length vc,.int .i64 now,.slice (some ⟨b,off,none⟩) ps.length fc] rfl ?_)
   intro w14 hst
   have HBz:=hZq (hst.bel HB.out (show w.heap.size≤w.heap.size by omega))
   have XBz:=hZq hst.at'
   have RBz:=hZq (hst.keep RB.out (show ¬ w.heap.size+1=w.heap.size by omega))
   have Uz:=hZq (Tab.sta U.out hst XB.out rfl)
   clear hst HB XB RB U
   have HB:=HBz
   have XB:=XBz
   have RB:=RBz
   have U:=Uz
   clear HBz XBz RBz Uz
   go_wp2_with fail
   go_roundw
   case rel => exact⟨j+1,t3,n3,o3,ub,uc2,by omega,by go_num,hZq (by rw [HN.out,HJ.out]; exact H3.out),U,XB,RB,HB⟩
   case measure => simp [intOf]; omega
  ·obtain rfl:j=ps.length:=by omega
   have HE:Hid ((⟨t,n,o⟩ : Cli)=⟨t2,n2,o2⟩):=hZq (by rw [← HJ.out,← h.out,List.take_of_length_le (by simp)])
   obtain⟨rfl,rfl,rfl⟩:=Cli.mk.inj HE.out
   clear HE HJ
   go_wp2_with (first | (with_reducible refine ldA aggRound _ rfl rfl (w.heap.size) 0 rfl XB.out [.int .i64 seq,.slice qa ql.length qc,.bool la,.int .i64 tok,.int .i64 at',.bool sn,.int .i64 dg,.slice ua t.length uc,.int .i64 n,.bool o,.int .i64 ca,.int .i64 cb,.int .i64 cd,.int .i64 ce,.slice va view.length vc,.int .i64 now,.slice fa ps.length fc] rfl rfl ?_) | (with_reducible refine stA aggRound _ _ rfl rfl (w.heap.size+1) 0 rfl RB.out [.int .i64 seq,.slice qa ql.length qc,.bool la,.int .i64 tok,.int .i64 at',.bool sn,.int .i64 dg,.slice ua t.length uc,.int .i64 n,.bool o,.int .i64 ca,.int .i64 cb,.int .i64 cd,.int .i64 ce,.slice va view.length vc,.int .i64 now,.slice fa ps.length fc] rfl rfl (Nat.le_of_ble_eq_true rfl) rfl [.int .i64 seq,.slice qa ql.length qc,.bool la,.int .i64 tok,.int .i64 at',.bool sn,.int .i64 dg,.slice ua t.length uc,.int .i64 n,.bool o,.int .i64 ca,.int .i64 cb,.int .i64 cd,.int .i64 ce,.slice va view.length vc,.int .i64 now,.slice fa ps.length fc] rfl ?_))
   intro w41 hst
   have HBz:=hZq (hst.bel HB.out (show w.heap.size≤w.heap.size+1 by omega))
   have XBz:=hZq (hst.keep XB.out (show ¬ w.heap.size=w.heap.size+1 by omega))
   have RBz:=hZq hst.at'
   have Uz:=hZq (Tab.sta U.out hst RB.out rfl)
   clear hst HB XB RB U
   have HB:=HBz
   have XB:=XBz
   have RB:=RBz
   have U:=Uz
   clear HBz XBz RBz Uz
   go_wp2_with fail
   refine retA aggRound _ (w.heap.size+1) Tryz.results40 rfl (cs:=[.int .i64 seq,.slice qa ql.length qc,.bool la,.int .i64 tok,.int .i64 at',.bool sn,.int .i64 dg,.slice ua t.length uc,.int .i64 n,.bool o,.int .i64 ca,.int .i64 cb,.int .i64 cd,.int .i64 ce,.slice va view.length vc,.int .i64 now,.slice fa ps.length fc]) RB.out rfl rfl ?_
   exact⟨_,rfl,U.out,HB.out⟩

theorem rd_chgs {w:World} {u v:Value} {ql mq:List Chg} (h:(u=v∧mq=ql)∨(u=.slice none 0 0∧mq=[])) (hv:Chgs w v ql):∃ a c,u=.slice a mq.length c∧Chgs w u mq:=by
 rcases h with ⟨rfl,rfl⟩ | ⟨rfl,rfl⟩
 ·obtain⟨a,c,e,-⟩:=hv.open'
  exact⟨a,c,e,hv⟩
 ·exact⟨none,0,rfl,chgs_nilL w⟩

theorem rpask_y {w:World} {v cv vv fv:Value} {ql:List Chg} {ct view:List Row} {ps:List FrS} (hv:Chgs w v ql) (hc:Tab w cv ct) (ht:Tab w vv view) (hf:Frms w fv ps) (hsT:Short ct) (ca cb cd ce seq tok at' dg now nn:Int) (la sn oo:Bool) {s:List UInt8} (HA:Hid (clAsk ⟨ct,nn,oo⟩=(s,true))) (hl0:s.length≤4294967296)
  {ms mt ma md:Int} {mq:List Chg} {ml mn:Bool} {er:Nat} (HR:Hid (rpRead ⟨seq,⟨ql,la⟩,⟨tok,at'⟩,sn,dg⟩ s=(⟨ms,⟨mq,ml⟩,⟨mt,ma⟩,mn,md⟩,er))) :
  Calls Tryz.prog 41 #[.agg #[.int .i64 seq,v,.bool la,.int .i64 tok,.int .i64 at',.bool sn,.int .i64 dg,cv,.int .i64 nn,.bool oo,.int .i64 ca,.int .i64 cb,.int .i64 cd,.int .i64 ce,vv,.int .i64 now,fv]] w fun e w' => ∃ u,e=.returned (.agg #[.int .i64 ms,u,.bool ml,.int .i64 mt,.int .i64 ma,.bool mn,.int .i64 md,cv,.int .i64 nn,.bool oo,.int .i64 ca,.int .i64 cb,.int .i64 cd,.int .i64 ce,vv,.int .i64 now,fv])∧Chgs w' u mq∧Below w.heap.size w w':=by
 obtain⟨qa,qc,rfl,-⟩:=hv.open'
 obtain⟨ta,tc,rfl,-⟩:=hc.open'
 obtain⟨va,vc,rfl,-⟩:=ht.open'
 obtain⟨fa,fc,rfl,-⟩:=hf.1.open'
 obtain⟨XB,RB,HB⟩:=ent2 w (.cells #[.int .i64 seq,.slice qa ql.length qc,.bool la,.int .i64 tok,.int .i64 at',.bool sn,.int .i64 dg,.slice ta ct.length tc,.int .i64 nn,.bool oo,.int .i64 ca,.int .i64 cb,.int .i64 cd,.int .i64 ce,.slice va view.length vc,.int .i64 now,.slice fa ps.length fc] 77) (.cells #[.int .i64 0,.slice none 0 0,.bool false,.int .i64 0,.int .i64 0,.bool false,.int .i64 0,.slice none 0 0,.int .i64 0,.bool false,.int .i64 0,.int .i64 0,.int .i64 0,.int .i64 0,.slice none 0 0,.int .i64 0,.slice none 0 0] 77)
 have HV:=hZq ((hv).later HB.out)
 have HC:=hZq ((hc).later HB.out)
 clear hv hc ht hf
 go_enter Tryz.func41,Tryz.ntmps41
 go_wp2_with (with_reducible refine ldA aggCli _ rfl rfl (w.heap.size) 7 rfl XB.out [.slice ta ct.length tc,.int .i64 nn,.bool oo] rfl rfl ?_)
 refine (clask_any HC.out nn oo hsT HA).mono ?_
 rintro e w3 ⟨rfl,b3⟩
 replace XB:=hZq (upQ XB.out b3)
 replace RB:=hZq (upQ RB.out b3)
 replace HV:=hZq (HV.out.later b3)
 replace HC:=hZq (HC.out.later b3)
 replace HB:=hZq (below2Z HB.out b3)
 clear b3
 clear HC
 go_wp2_with (with_reducible refine ldA aggLink _ rfl rfl (w.heap.size) 0 rfl XB.out [.int .i64 seq,.slice qa ql.length qc,.bool la,.int .i64 tok,.int .i64 at',.bool sn,.int .i64 dg] rfl rfl ?_)
 refine (rpread_any HV.out _ hl0 HR).mono ?_
 rintro e w4 ⟨u,rfl,hu,b4⟩
 replace XB:=hZq (upQ XB.out b4)
 replace RB:=hZq (upQ RB.out b4)
 replace HV:=hZq (HV.out.later b4)
 replace HB:=hZq (below2Z HB.out b4)
 obtain⟨ua,uc,rfl,hU⟩:=rd_chgs hu HV.out
 clear hu HV
 have HV:=hZq hU
 clear hU
 clear b4
 go_wp2_with (with_reducible refine stA aggLink _ _ rfl rfl (w.heap.size) 0 rfl XB.out [.int .i64 ms,.slice ua mq.length uc,.bool ml,.int .i64 mt,.int .i64 ma,.bool mn,.int .i64 md] rfl rfl (Nat.le_of_ble_eq_true rfl) rfl [.int .i64 ms,.slice ua mq.length uc,.bool ml,.int .i64 mt,.int .i64 ma,.bool mn,.int .i64 md,.slice ta ct.length tc,.int .i64 nn,.bool oo,.int .i64 ca,.int .i64 cb,.int .i64 cd,.int .i64 ce,.slice va view.length vc,.int .i64 now,.slice fa ps.length fc] rfl ?_)
 intro w5 hst
 have HBz:=hZq (hst.bel HB.out (show w.heap.size≤w.heap.size by omega))
 have XBz:=hZq hst.at'
 have RBz:=hZq (hst.keep RB.out (show ¬ w.heap.size+1=w.heap.size by omega))
 have HVz:=hZq (Chgs.sta HV.out hst XB.out rfl)
 clear hst HB XB RB HV
 have HB:=HBz
 have XB:=XBz
 have RB:=RBz
 have HV:=HVz
 clear HBz XBz RBz HVz
 go_wp2_with (first | (with_reducible refine ldA aggRound _ rfl rfl (w.heap.size) 0 rfl XB.out [.int .i64 ms,.slice ua mq.length uc,.bool ml,.int .i64 mt,.int .i64 ma,.bool mn,.int .i64 md,.slice ta ct.length tc,.int .i64 nn,.bool oo,.int .i64 ca,.int .i64 cb,.int .i64 cd,.int .i64 ce,.slice va view.length vc,.int .i64 now,.slice fa ps.length fc] rfl rfl ?_) | (with_reducible refine stA aggRound _ _ rfl rfl (w.heap.size+1) 0 rfl RB.out [.int .i64 ms,.slice ua mq.length uc,.bool ml,.int .i64 mt,.int .i64 ma,.bool mn,.int .i64 md,.slice ta ct.length tc,.int .i64 nn,.bool oo,.int .i64 ca,.int .i64 cb,.int .i64 cd,.int .i64 ce,.slice va view.length vc,.int .i64 now,.slice fa ps.length fc] rfl rfl (Nat.le_of_ble_eq_true rfl) rfl [.int .i64 ms,.slice ua mq.length uc,.bool ml,.int .i64 mt,.int .i64 ma,.bool mn,.int .i64 md,.slice ta ct.length tc,.int .i64 nn,.bool oo,.int .i64 ca,.int .i64 cb,.int .i64 cd,.int .i64 ce,.slice va view.length vc,.int .i64 now,.slice fa ps.length fc] rfl ?_))
 intro w6 hst
 have HBz:=hZq (hst.bel HB.out (show w.heap.size≤w.heap.size+1 by omega))
 have XBz:=hZq (hst.keep XB.out (show ¬ w.heap.size=w.heap.size+1 by omega))
 have RBz:=hZq hst.at'
 have HVz:=hZq (Chgs.sta HV.out hst RB.out rfl)
 clear hst HB XB RB HV
 have HB:=HBz
 have XB:=XBz
 have RB:=RBz
 have HV:=HVz
 clear HBz XBz RBz HVz
 go_wp2_with fail
 refine retA aggRound _ (w.heap.size+1) Tryz.results41 rfl (cs:=[.int .i64 ms,.slice ua mq.length uc,.bool ml,.int .i64 mt,.int .i64 ma,.bool mn,.int .i64 md,.slice ta ct.length tc,.int .i64 nn,.bool oo,.int .i64 ca,.int .i64 cb,.int .i64 cd,.int .i64 ce,.slice va view.length vc,.int .i64 now,.slice fa ps.length fc]) RB.out rfl rfl ?_
 exact⟨_,rfl,HV.out,HB.out⟩

theorem rpask_n {w:World} {v cv vv fv:Value} {ql:List Chg} {ct view:List Row} {ps:List FrS} (hv:Chgs w v ql) (hc:Tab w cv ct) (ht:Tab w vv view) (hf:Frms w fv ps) (hsT:Short ct) (ca cb cd ce seq tok at' dg now nn:Int) (la sn oo:Bool) {s:List UInt8} (HA:Hid (clAsk ⟨ct,nn,oo⟩=(s,false))) :
  Calls Tryz.prog 41 #[.agg #[.int .i64 seq,v,.bool la,.int .i64 tok,.int .i64 at',.bool sn,.int .i64 dg,cv,.int .i64 nn,.bool oo,.int .i64 ca,.int .i64 cb,.int .i64 cd,.int .i64 ce,vv,.int .i64 now,fv]] w fun e w' => ∃ u,e=.returned (.agg #[.int .i64 seq,u,.bool la,.int .i64 tok,.int .i64 at',.bool sn,.int .i64 dg,cv,.int .i64 nn,.bool oo,.int .i64 ca,.int .i64 cb,.int .i64 cd,.int .i64 ce,vv,.int .i64 now,fv])∧Chgs w' u ql∧Below w.heap.size w w':=by
 obtain⟨qa,qc,rfl,-⟩:=hv.open'
 obtain⟨ta,tc,rfl,-⟩:=hc.open'
 obtain⟨va,vc,rfl,-⟩:=ht.open'
 obtain⟨fa,fc,rfl,-⟩:=hf.1.open'
 obtain⟨XB,RB,HB⟩:=ent2 w (.cells #[.int .i64 seq,.slice qa ql.length qc,.bool la,.int .i64 tok,.int .i64 at',.bool sn,.int .i64 dg,.slice ta ct.length tc,.int .i64 nn,.bool oo,.int .i64 ca,.int .i64 cb,.int .i64 cd,.int .i64 ce,.slice va view.length vc,.int .i64 now,.slice fa ps.length fc] 77) (.cells #[.int .i64 0,.slice none 0 0,.bool false,.int .i64 0,.int .i64 0,.bool false,.int .i64 0,.slice none 0 0,.int .i64 0,.bool false,.int .i64 0,.int .i64 0,.int .i64 0,.int .i64 0,.slice none 0 0,.int .i64 0,.slice none 0 0] 77)
 have HV:=hZq ((hv).later HB.out)
 have HC:=hZq ((hc).later HB.out)
 clear hv hc ht hf
 go_enter Tryz.func41,Tryz.ntmps41
 go_wp2_with (with_reducible refine ldA aggCli _ rfl rfl (w.heap.size) 7 rfl XB.out [.slice ta ct.length tc,.int .i64 nn,.bool oo] rfl rfl ?_)
 refine (clask_any HC.out nn oo hsT HA).mono ?_
 rintro e w3 ⟨rfl,b3⟩
 replace XB:=hZq (upQ XB.out b3)
 replace RB:=hZq (upQ RB.out b3)
 replace HV:=hZq (HV.out.later b3)
 replace HC:=hZq (HC.out.later b3)
 replace HB:=hZq (below2Z HB.out b3)
 clear b3
 clear HC
 go_wp2_with (first | (with_reducible refine ldA aggRound _ rfl rfl (w.heap.size) 0 rfl XB.out [.int .i64 seq,.slice qa ql.length qc,.bool la,.int .i64 tok,.int .i64 at',.bool sn,.int .i64 dg,.slice ta ct.length tc,.int .i64 nn,.bool oo,.int .i64 ca,.int .i64 cb,.int .i64 cd,.int .i64 ce,.slice va view.length vc,.int .i64 now,.slice fa ps.length fc] rfl rfl ?_) | (with_reducible refine stA aggRound _ _ rfl rfl (w.heap.size+1) 0 rfl RB.out [.int .i64 seq,.slice qa ql.length qc,.bool la,.int .i64 tok,.int .i64 at',.bool sn,.int .i64 dg,.slice ta ct.length tc,.int .i64 nn,.bool oo,.int .i64 ca,.int .i64 cb,.int .i64 cd,.int .i64 ce,.slice va view.length vc,.int .i64 now,.slice fa ps.length fc] rfl rfl (Nat.le_of_ble_eq_true rfl) rfl [.int .i64 seq,.slice qa ql.length qc,.bool la,.int .i64 tok,.int .i64 at',.bool sn,.int .i64 dg,.slice ta ct.length tc,.int .i64 nn,.bool oo,.int .i64 ca,.int .i64 cb,.int .i64 cd,.int .i64 ce,.slice va view.length vc,.int .i64 now,.slice fa ps.length fc] rfl ?_))
 intro w4 hst
 have HBz:=hZq (hst.bel HB.out (show w.heap.size≤w.heap.size+1 by omega))
 have XBz:=hZq (hst.keep XB.out (show ¬ w.heap.size=w.heap.size+1 by omega))
 have RBz:=hZq hst.at'
 have HVz:=hZq (Chgs.sta HV.out hst RB.out rfl)
 clear hst HB XB RB HV
 have HB:=HBz
 have XB:=XBz
 have RB:=RBz
 have HV:=HVz
 clear HBz XBz RBz HVz
 go_wp2_with fail
 refine retA aggRound _ (w.heap.size+1) Tryz.results41 rfl (cs:=[.int .i64 seq,.slice qa ql.length qc,.bool la,.int .i64 tok,.int .i64 at',.bool sn,.int .i64 dg,.slice ta ct.length tc,.int .i64 nn,.bool oo,.int .i64 ca,.int .i64 cb,.int .i64 cd,.int .i64 ce,.slice va view.length vc,.int .i64 now,.slice fa ps.length fc]) RB.out rfl rfl ?_
 exact⟨_,rfl,HV.out,HB.out⟩

theorem rpask {w:World} {v cv vv fv:Value} {ql:List Chg} {ct view:List Row} {ps:List FrS} (hv:Chgs w v ql) (hc:Tab w cv ct) (ht:Tab w vv view) (hf:Frms w fv ps) (hsT:Short ct) (ca cb cd ce seq tok at' dg now nn:Int) (la sn oo:Bool) {s:List UInt8} {r:Bool} (HA:Hid (clAsk ⟨ct,nn,oo⟩=(s,r)))
  {ms mt ma md:Int} {mq:List Chg} {ml mn:Bool} (HM:Hid ((if r=true then (rpRead ⟨seq,⟨ql,la⟩,⟨tok,at'⟩,sn,dg⟩ s).1 else ⟨seq,⟨ql,la⟩,⟨tok,at'⟩,sn,dg⟩)=⟨ms,⟨mq,ml⟩,⟨mt,ma⟩,mn,md⟩)) :
  Calls Tryz.prog 41 #[.agg #[.int .i64 seq,v,.bool la,.int .i64 tok,.int .i64 at',.bool sn,.int .i64 dg,cv,.int .i64 nn,.bool oo,.int .i64 ca,.int .i64 cb,.int .i64 cd,.int .i64 ce,vv,.int .i64 now,fv]] w fun e w' => ∃ u,e=.returned (.agg #[.int .i64 ms,u,.bool ml,.int .i64 mt,.int .i64 ma,.bool mn,.int .i64 md,cv,.int .i64 nn,.bool oo,.int .i64 ca,.int .i64 cb,.int .i64 cd,.int .i64 ce,vv,.int .i64 now,fv])∧Chgs w' u mq∧Below w.heap.size w w':=by
 cases r with
 | true =>
  have hm:=HM.out
  rw [if_pos rfl] at hm
  obtain⟨er,he⟩ : ∃ er,rpRead ⟨seq,⟨ql,la⟩,⟨tok,at'⟩,sn,dg⟩ s=(⟨ms,⟨mq,ml⟩,⟨mt,ma⟩,mn,md⟩,er):=⟨_,by rw [← hm]⟩
  exact rpask_y hv hc ht hf hsT ca cb cd ce seq tok at' dg now nn la sn oo HA (ask_read HA.out ⟨seq,⟨ql,la⟩,⟨tok,at'⟩,sn,dg⟩).2.2 (hZq he)
 | false =>
  have hm:=HM.out
  rw [if_neg (by decide)] at hm
  obtain⟨rfl,h2,h3,rfl,rfl⟩:=Lnk.mk.inj hm
  obtain⟨rfl,rfl⟩:=Que.mk.inj h2
  obtain⟨rfl,rfl⟩:=Bkt.mk.inj h3
  exact rpask_n hv hc ht hf hsT ca cb cd ce _ _ _ _ now nn _ _ oo HA
end
section
open Go.RowKit

theorem rpround_in {w:World} {v cv vv:Value} {ql:List Chg} {ct view:List Row} (hv:Chgs w v ql) (hc:Tab w cv ct) (ht:Tab w vv view) (hs:ShortC ql) (hl:ql.length≤100) (hsT:Short ct) (hlT:ct.length≤1000) (hsh:Short view) (ca cb cd ce seq tok at' dg now nn:Int) (la sn oo:Bool)
  {xs xt xat xd n2:Int} {xq:List Chg} {xl xn o2:Bool} {t2:List Row} {ms mt ma md:Int} {mq:List Chg} {ml mn r:Bool} {fs:List Frm} {s:List UInt8} (hr:Hid (lnEmit ⟨ca,cb,cd,ce⟩ ⟨seq,⟨ql,la⟩,⟨tok,at'⟩,sn,dg⟩ view now=(⟨ms,⟨mq,ml⟩,⟨mt,ma⟩,mn,md⟩,fs))) (hfd:Hid (fs.foldl clFeed ⟨ct,nn,oo⟩=⟨t2,n2,o2⟩)) (HA:Hid (clAsk ⟨t2,n2,o2⟩=(s,r))) (HM:Hid ((if r=true then (rpRead ⟨ms,⟨mq,ml⟩,⟨mt,ma⟩,mn,md⟩ s).1 else ⟨ms,⟨mq,ml⟩,⟨mt,ma⟩,mn,md⟩)=⟨xs,⟨xq,xl⟩,⟨xt,xat⟩,xn,xd⟩)) :
  Calls Tryz.prog 14 #[.agg #[.int .i64 ca,.int .i64 cb,.int .i64 cd,.int .i64 ce],.agg #[.int .i64 seq,v,.bool la,.int .i64 tok,.int .i64 at',.bool sn,.int .i64 dg,cv,.int .i64 nn,.bool oo],vv,.int .i64 now] w fun e w' => ∃ u tv,e=.returned (.agg #[.int .i64 xs,u,.bool xl,.int .i64 xt,.int .i64 xat,.bool xn,.int .i64 xd,tv,.int .i64 n2,.bool o2])∧Chgs w' u xq∧Tab w' tv t2∧Below w.heap.size w w':=by
 obtain⟨qa,qc,rfl,-⟩:=hv.open'
 obtain⟨ta,tc,rfl,-⟩:=hc.open'
 obtain⟨va,vc,rfl,-⟩:=ht.open'
 have HV0:=hZq hv
 have HC0:=hZq hc
 have HT0:=hZq ht
 clear hv hc ht
 have HFM:=hZq (emit_fit hr.out hs hl).2.2
 have HFT:=hZq (feeds_fit fs (c:=⟨ct,nn,oo⟩) hsT hlT)
 rw [hfd.out] at HFT
 obtain⟨GB,SD,RS,HB⟩:=ent3 w (.cells #[.int .i64 ca,.int .i64 cb,.int .i64 cd,.int .i64 ce] 23) (.cells #[.int .i64 seq,.slice qa ql.length qc,.bool la,.int .i64 tok,.int .i64 at',.bool sn,.int .i64 dg,.slice ta ct.length tc,.int .i64 nn,.bool oo] 41) (.cells #[.int .i64 0,.slice none 0 0,.bool false,.int .i64 0,.int .i64 0,.bool false,.int .i64 0,.slice none 0 0,.int .i64 0,.bool false] 41)
 have hix0:∀ w,(Instr.index 80 (.agg #[.func (.func 39) #[] #[],.func (.func 40) #[] #[],.func (.func 41) #[] #[]]) (.int .i64 0)).run Tryz.prog w=.ok (.func (.func 39) #[] #[]) w:=fun _ => by kernel_rfl
 have hix1:∀ w,(Instr.index 80 (.agg #[.func (.func 39) #[] #[],.func (.func 40) #[] #[],.func (.func 41) #[] #[]]) (.int .i64 1)).run Tryz.prog w=.ok (.func (.func 40) #[] #[]) w:=fun _ => by kernel_rfl
 have hix2:∀ w,(Instr.index 80 (.agg #[.func (.func 39) #[] #[],.func (.func 40) #[] #[],.func (.func 41) #[] #[]]) (.int .i64 2)).run Tryz.prog w=.ok (.func (.func 41) #[] #[]) w:=fun _ => by kernel_rfl
 go_enter Tryz.func14,Tryz.ntmps14
 have SD0:=SD
 have GB0:=GB
 have b4:=bl_newZ (((w.alloc (.cells #[.int .i64 ca,.int .i64 cb,.int .i64 cd,.int .i64 ce] 23)).alloc (.cells #[.int .i64 seq,.slice qa ql.length qc,.bool la,.int .i64 tok,.int .i64 at',.bool sn,.int .i64 dg,.slice ta ct.length tc,.int .i64 nn,.bool oo] 41)).alloc (.cells #[.int .i64 0,.slice none 0 0,.bool false,.int .i64 0,.int .i64 0,.bool false,.int .i64 0,.slice none 0 0,.int .i64 0,.bool false] 41)) (.cells #[.int .i64 0,.slice none 0 0,.bool false,.int .i64 0,.int .i64 0,.bool false,.int .i64 0,.slice none 0 0,.int .i64 0,.bool false,.int .i64 0,.int .i64 0,.int .i64 0,.int .i64 0,.slice none 0 0,.int .i64 0,.slice none 0 0] 77)
 have BR:=newQ (((w.alloc (.cells #[.int .i64 ca,.int .i64 cb,.int .i64 cd,.int .i64 ce] 23)).alloc (.cells #[.int .i64 seq,.slice qa ql.length qc,.bool la,.int .i64 tok,.int .i64 at',.bool sn,.int .i64 dg,.slice ta ct.length tc,.int .i64 nn,.bool oo] 41)).alloc (.cells #[.int .i64 0,.slice none 0 0,.bool false,.int .i64 0,.int .i64 0,.bool false,.int .i64 0,.slice none 0 0,.int .i64 0,.bool false] 41)) (.cells #[.int .i64 0,.slice none 0 0,.bool false,.int .i64 0,.int .i64 0,.bool false,.int .i64 0,.slice none 0 0,.int .i64 0,.bool false,.int .i64 0,.int .i64 0,.int .i64 0,.int .i64 0,.slice none 0 0,.int .i64 0,.slice none 0 0] 77)
 have hBR:w.heap.size≤(((w.alloc (.cells #[.int .i64 ca,.int .i64 cb,.int .i64 cd,.int .i64 ce] 23)).alloc (.cells #[.int .i64 seq,.slice qa ql.length qc,.bool la,.int .i64 tok,.int .i64 at',.bool sn,.int .i64 dg,.slice ta ct.length tc,.int .i64 nn,.bool oo] 41)).alloc (.cells #[.int .i64 0,.slice none 0 0,.bool false,.int .i64 0,.int .i64 0,.bool false,.int .i64 0,.slice none 0 0,.int .i64 0,.bool false] 41)).heap.size:=HB.out.size
 rw [World.size_alloc,World.size_alloc,World.size_alloc] at BR hBR
 replace GB:=hZq (upQ GB.out b4)
 replace SD:=hZq (upQ SD.out b4)
 replace RS:=hZq (upQ RS.out b4)
 replace HB:=hZq (below2Z HB.out b4)
 clear b4
 replace BR:=hZq BR
 go_wp2_with (first | (with_reducible refine ldA aggSide _ rfl rfl (w.heap.size+1) 0 rfl SD0.out [.int .i64 seq,.slice qa ql.length qc,.bool la,.int .i64 tok,.int .i64 at',.bool sn,.int .i64 dg,.slice ta ct.length tc,.int .i64 nn,.bool oo] rfl rfl ?_) | (with_reducible refine ldA aggCfg _ rfl rfl (w.heap.size) 0 rfl GB0.out [.int .i64 ca,.int .i64 cb,.int .i64 cd,.int .i64 ce] rfl rfl ?_) | (with_reducible refine stA aggRound _ _ rfl rfl (w.heap.size+1+1+1) 0 rfl BR.out [.int .i64 seq,.slice qa ql.length qc,.bool la,.int .i64 tok,.int .i64 at',.bool sn,.int .i64 dg,.slice ta ct.length tc,.int .i64 nn,.bool oo,.int .i64 ca,.int .i64 cb,.int .i64 cd,.int .i64 ce,.slice va view.length vc,.int .i64 now,.slice none 0 0] rfl rfl (Nat.le_of_ble_eq_true rfl) rfl [.int .i64 seq,.slice qa ql.length qc,.bool la,.int .i64 tok,.int .i64 at',.bool sn,.int .i64 dg,.slice ta ct.length tc,.int .i64 nn,.bool oo,.int .i64 ca,.int .i64 cb,.int .i64 cd,.int .i64 ce,.slice va view.length vc,.int .i64 now,.slice none 0 0] rfl ?_))
 intro w5 hst
 have HBz:=hZq (hst.bel HB.out (show w.heap.size≤w.heap.size+1+1+1 by omega))
 have GBz:=hZq (hst.keep GB.out (show ¬ w.heap.size=w.heap.size+1+1+1 by omega))
 have SDz:=hZq (hst.keep SD.out (show ¬ w.heap.size+1=w.heap.size+1+1+1 by omega))
 have RSz:=hZq (hst.keep RS.out (show ¬ w.heap.size+1+1=w.heap.size+1+1+1 by omega))
 have BRz:=hZq hst.at'
 clear hst HB GB SD RS BR
 have HB:=HBz
 have GB:=GBz
 have SD:=SDz
 have RS:=RSz
 have BR:=BRz
 clear HBz GBz SDz RSz BRz
 clear SD0 GB0
 clear GB
 clear SD
 go_wp2_with fail
 go_loopw [18] (fun i wr => (i=.int .i64 0∧Hid (wr.heap[w.heap.size+1+1+1]?=some (.cells #[.int .i64 seq,.slice qa ql.length qc,.bool la,.int .i64 tok,.int .i64 at',.bool sn,.int .i64 dg,.slice ta ct.length tc,.int .i64 nn,.bool oo,.int .i64 ca,.int .i64 cb,.int .i64 cd,.int .i64 ce,.slice va view.length vc,.int .i64 now,.slice none 0 0] 77 (0,0)))∧Hid (wr.heap[w.heap.size+1+1]?=some (.cells #[.int .i64 0,.slice none 0 0,.bool false,.int .i64 0,.int .i64 0,.bool false,.int .i64 0,.slice none 0 0,.int .i64 0,.bool false] 41 (0,0)))∧Hid (Below w.heap.size w wr))∨(∃ ua uc fa fc,∃ ps:List FrS,i=.int .i64 1∧Hid (ps.map FrS.f=fs)∧Hid (Chgs wr (.slice ua mq.length uc) mq)∧Hid (Frms wr (.slice fa ps.length fc) ps)∧Hid (wr.heap[w.heap.size+1+1+1]?=some (.cells #[.int .i64 ms,.slice ua mq.length uc,.bool ml,.int .i64 mt,.int .i64 ma,.bool mn,.int .i64 md,.slice ta ct.length tc,.int .i64 nn,.bool oo,.int .i64 ca,.int .i64 cb,.int .i64 cd,.int .i64 ce,.slice va view.length vc,.int .i64 now,.slice fa ps.length fc] 77 (0,0)))∧Hid (wr.heap[w.heap.size+1+1]?=some (.cells #[.int .i64 0,.slice none 0 0,.bool false,.int .i64 0,.int .i64 0,.bool false,.int .i64 0,.slice none 0 0,.int .i64 0,.bool false] 41 (0,0)))∧Hid (Below w.heap.size w wr))∨(∃ ua uc fa fc ta2 tc2,∃ ps:List FrS,i=.int .i64 2∧Hid (Chgs wr (.slice ua mq.length uc) mq)∧Hid (Frms wr (.slice fa ps.length fc) ps)∧Hid (Tab wr (.slice ta2 t2.length tc2) t2)∧Hid (wr.heap[w.heap.size+1+1+1]?=some (.cells #[.int .i64 ms,.slice ua mq.length uc,.bool ml,.int .i64 mt,.int .i64 ma,.bool mn,.int .i64 md,.slice ta2 t2.length tc2,.int .i64 n2,.bool o2,.int .i64 ca,.int .i64 cb,.int .i64 cd,.int .i64 ce,.slice va view.length vc,.int .i64 now,.slice fa ps.length fc] 77 (0,0)))∧Hid (wr.heap[w.heap.size+1+1]?=some (.cells #[.int .i64 0,.slice none 0 0,.bool false,.int .i64 0,.int .i64 0,.bool false,.int .i64 0,.slice none 0 0,.int .i64 0,.bool false] 41 (0,0)))∧Hid (Below w.heap.size w wr))∨(∃ xa xc fa fc ta2 tc2,∃ ps:List FrS,i=.int .i64 3∧Hid (Chgs wr (.slice xa xq.length xc) xq)∧Hid (Tab wr (.slice ta2 t2.length tc2) t2)∧Hid (wr.heap[w.heap.size+1+1+1]?=some (.cells #[.int .i64 xs,.slice xa xq.length xc,.bool xl,.int .i64 xt,.int .i64 xat,.bool xn,.int .i64 xd,.slice ta2 t2.length tc2,.int .i64 n2,.bool o2,.int .i64 ca,.int .i64 cb,.int .i64 cd,.int .i64 ce,.slice va view.length vc,.int .i64 now,.slice fa ps.length fc] 77 (0,0)))∧Hid (wr.heap[w.heap.size+1+1]?=some (.cells #[.int .i64 0,.slice none 0 0,.bool false,.int .i64 0,.int .i64 0,.bool false,.int .i64 0,.slice none 0 0,.int .i64 0,.bool false] 41 (0,0)))∧Hid (Below w.heap.size w wr))) (fun i _ => 4 - (intOf i).toNat)
 case atStart => exact .inl ⟨rfl,BR,RS,HB⟩
 case round =>
  clear BR RS HB
  rcases hrel with ⟨rfl,BR,RS,HB⟩ | ⟨ua,uc,fa,fc,ps,rfl,HPS,HV,HF,BR,RS,HB⟩ | ⟨ua,uc,fa,fc,ta2,tc2,ps,rfl,HV,HF,HC,BR,RS,HB⟩ | ⟨xa,xc,fa,fc,ta2,tc2,ps,rfl,HV,HC,BR,RS,HB⟩
  ·go_wp2_with (with_reducible refine ldA aggRound _ rfl rfl (w.heap.size+1+1+1) 0 rfl BR.out [.int .i64 seq,.slice qa ql.length qc,.bool la,.int .i64 tok,.int .i64 at',.bool sn,.int .i64 dg,.slice ta ct.length tc,.int .i64 nn,.bool oo,.int .i64 ca,.int .i64 cb,.int .i64 cd,.int .i64 ce,.slice va view.length vc,.int .i64 now,.slice none 0 0] rfl rfl ?_)
   refine (rptell (HV0.out.later HB.out) (HC0.out.later HB.out) (HT0.out.later HB.out) hs hl hsh ca cb cd ce seq tok at' dg now nn la sn oo hr).mono ?_
   rintro e w11 ⟨u,fv,ps,rfl,hU,hF,hps,b11⟩
   replace BR:=hZq (upQ BR.out b11)
   replace RS:=hZq (upQ RS.out b11)
   replace HB:=hZq (below2Z HB.out b11)
   obtain⟨ua,uc,rfl,-⟩:=hU.open'
   obtain⟨fa,fc,rfl,-⟩:=hF.1.open'
   have HV:=hZq hU
   have HF:=hZq hF
   have HPS:=hZq hps
   clear hU hF hps
   clear b11
   go_wp2_with (with_reducible refine stA aggRound _ _ rfl rfl (w.heap.size+1+1+1) 0 rfl BR.out [.int .i64 ms,.slice ua mq.length uc,.bool ml,.int .i64 mt,.int .i64 ma,.bool mn,.int .i64 md,.slice ta ct.length tc,.int .i64 nn,.bool oo,.int .i64 ca,.int .i64 cb,.int .i64 cd,.int .i64 ce,.slice va view.length vc,.int .i64 now,.slice fa ps.length fc] rfl rfl (Nat.le_of_ble_eq_true rfl) rfl [.int .i64 ms,.slice ua mq.length uc,.bool ml,.int .i64 mt,.int .i64 ma,.bool mn,.int .i64 md,.slice ta ct.length tc,.int .i64 nn,.bool oo,.int .i64 ca,.int .i64 cb,.int .i64 cd,.int .i64 ce,.slice va view.length vc,.int .i64 now,.slice fa ps.length fc] rfl ?_)
   intro w12 hst
   have HBz:=hZq (hst.bel HB.out (show w.heap.size≤w.heap.size+1+1+1 by omega))
   have BRz:=hZq hst.at'
   have RSz:=hZq (hst.keep RS.out (show ¬ w.heap.size+1+1=w.heap.size+1+1+1 by omega))
   have HVz:=hZq (Chgs.sta HV.out hst BR.out rfl)
   have HFz:=hZq (Frms.sta HF.out hst BR.out rfl)
   clear hst HB BR RS HV HF
   have HB:=HBz
   have BR:=BRz
   have RS:=RSz
   have HV:=HVz
   have HF:=HFz
   clear HBz BRz RSz HVz HFz
   go_wp2_with fail
   go_roundw
   case rel => exact .inr (.inl ⟨ua,uc,fa,fc,ps,rfl,HPS,HV,HF,BR,RS,HB⟩)
   case measure => simp [intOf]
  ·have HFD:Hid ((ps.map FrS.f).foldl clFeed ⟨ct,nn,oo⟩=⟨t2,n2,o2⟩):=hZq (by rw [HPS.out]; exact hfd.out)
   have HFN:Hid (∀ f ∈ ps.map FrS.f,frMay f=true∧f.k≤3):=hZq (by rw [HPS.out]; exact HFM.out)
   go_wp2_with (with_reducible refine ldA aggRound _ rfl rfl (w.heap.size+1+1+1) 0 rfl BR.out [.int .i64 ms,.slice ua mq.length uc,.bool ml,.int .i64 mt,.int .i64 ma,.bool mn,.int .i64 md,.slice ta ct.length tc,.int .i64 nn,.bool oo,.int .i64 ca,.int .i64 cb,.int .i64 cd,.int .i64 ce,.slice va view.length vc,.int .i64 now,.slice fa ps.length fc] rfl rfl ?_)
   refine (rpfeed HV.out (HC0.out.later HB.out) (HT0.out.later HB.out) HF.out hsT hlT HFN ca cb cd ce ms mt ma md now nn ml mn oo HFD).mono ?_
   rintro e w21 ⟨u,rfl,hU,b21⟩
   replace BR:=hZq (upQ BR.out b21)
   replace RS:=hZq (upQ RS.out b21)
   replace HV:=hZq (HV.out.later b21)
   replace HF:=hZq (HF.out.later b21)
   replace HB:=hZq (below2Z HB.out b21)
   obtain⟨ta2,tc2,rfl,-⟩:=hU.open'
   have HC:=hZq hU
   clear hU HPS
   clear b21
   go_wp2_with (with_reducible refine stA aggRound _ _ rfl rfl (w.heap.size+1+1+1) 0 rfl BR.out [.int .i64 ms,.slice ua mq.length uc,.bool ml,.int .i64 mt,.int .i64 ma,.bool mn,.int .i64 md,.slice ta2 t2.length tc2,.int .i64 n2,.bool o2,.int .i64 ca,.int .i64 cb,.int .i64 cd,.int .i64 ce,.slice va view.length vc,.int .i64 now,.slice fa ps.length fc] rfl rfl (Nat.le_of_ble_eq_true rfl) rfl [.int .i64 ms,.slice ua mq.length uc,.bool ml,.int .i64 mt,.int .i64 ma,.bool mn,.int .i64 md,.slice ta2 t2.length tc2,.int .i64 n2,.bool o2,.int .i64 ca,.int .i64 cb,.int .i64 cd,.int .i64 ce,.slice va view.length vc,.int .i64 now,.slice fa ps.length fc] rfl ?_)
   intro w22 hst
   have HBz:=hZq (hst.bel HB.out (show w.heap.size≤w.heap.size+1+1+1 by omega))
   have BRz:=hZq hst.at'
   have RSz:=hZq (hst.keep RS.out (show ¬ w.heap.size+1+1=w.heap.size+1+1+1 by omega))
   have HVz:=hZq (Chgs.sta HV.out hst BR.out rfl)
   have HFz:=hZq (Frms.sta HF.out hst BR.out rfl)
   have HCz:=hZq (Tab.sta HC.out hst BR.out rfl)
   clear hst HB BR RS HV HF HC
   have HB:=HBz
   have BR:=BRz
   have RS:=RSz
   have HV:=HVz
   have HF:=HFz
   have HC:=HCz
   clear HBz BRz RSz HVz HFz HCz
   go_wp2_with fail
   go_roundw
   case rel => exact .inr (.inr (.inl ⟨ua,uc,fa,fc,ta2,tc2,ps,rfl,HV,HF,HC,BR,RS,HB⟩))
   case measure => simp [intOf]
  ·go_wp2_with (with_reducible refine ldA aggRound _ rfl rfl (w.heap.size+1+1+1) 0 rfl BR.out [.int .i64 ms,.slice ua mq.length uc,.bool ml,.int .i64 mt,.int .i64 ma,.bool mn,.int .i64 md,.slice ta2 t2.length tc2,.int .i64 n2,.bool o2,.int .i64 ca,.int .i64 cb,.int .i64 cd,.int .i64 ce,.slice va view.length vc,.int .i64 now,.slice fa ps.length fc] rfl rfl ?_)
   refine (rpask HV.out HC.out (HT0.out.later HB.out) HF.out HFT.out.1 ca cb cd ce ms mt ma md now n2 ml mn o2 HA HM).mono ?_
   rintro e w31 ⟨u,rfl,hU,b31⟩
   replace BR:=hZq (upQ BR.out b31)
   replace RS:=hZq (upQ RS.out b31)
   replace HV:=hZq (HV.out.later b31)
   replace HF:=hZq (HF.out.later b31)
   replace HC:=hZq (HC.out.later b31)
   replace HB:=hZq (below2Z HB.out b31)
   obtain⟨xa,xc,rfl,-⟩:=hU.open'
   clear HV
   have HV:=hZq hU
   clear hU HF
   clear b31
   go_wp2_with (with_reducible refine stA aggRound _ _ rfl rfl (w.heap.size+1+1+1) 0 rfl BR.out [.int .i64 xs,.slice xa xq.length xc,.bool xl,.int .i64 xt,.int .i64 xat,.bool xn,.int .i64 xd,.slice ta2 t2.length tc2,.int .i64 n2,.bool o2,.int .i64 ca,.int .i64 cb,.int .i64 cd,.int .i64 ce,.slice va view.length vc,.int .i64 now,.slice fa ps.length fc] rfl rfl (Nat.le_of_ble_eq_true rfl) rfl [.int .i64 xs,.slice xa xq.length xc,.bool xl,.int .i64 xt,.int .i64 xat,.bool xn,.int .i64 xd,.slice ta2 t2.length tc2,.int .i64 n2,.bool o2,.int .i64 ca,.int .i64 cb,.int .i64 cd,.int .i64 ce,.slice va view.length vc,.int .i64 now,.slice fa ps.length fc] rfl ?_)
   intro w32 hst
   have HBz:=hZq (hst.bel HB.out (show w.heap.size≤w.heap.size+1+1+1 by omega))
   have BRz:=hZq hst.at'
   have RSz:=hZq (hst.keep RS.out (show ¬ w.heap.size+1+1=w.heap.size+1+1+1 by omega))
   have HVz:=hZq (Chgs.sta HV.out hst BR.out rfl)
   have HCz:=hZq (Tab.sta HC.out hst BR.out rfl)
   clear hst HB BR RS HV HC
   have HB:=HBz
   have BR:=BRz
   have RS:=RSz
   have HV:=HVz
   have HC:=HCz
   clear HBz BRz RSz HVz HCz
   go_wp2_with fail
   go_roundw
   case rel => exact .inr (.inr (.inr (⟨xa,xc,fa,fc,ta2,tc2,ps,rfl,HV,HC,BR,RS,HB⟩)))
   case measure => simp [intOf]
  ·go_wp2_with (first | (with_reducible refine ldA aggSide _ rfl rfl (w.heap.size+1+1+1) 0 rfl BR.out [.int .i64 xs,.slice xa xq.length xc,.bool xl,.int .i64 xt,.int .i64 xat,.bool xn,.int .i64 xd,.slice ta2 t2.length tc2,.int .i64 n2,.bool o2] rfl rfl ?_) | (with_reducible refine stA aggSide _ _ rfl rfl (w.heap.size+1+1) 0 rfl RS.out [.int .i64 xs,.slice xa xq.length xc,.bool xl,.int .i64 xt,.int .i64 xat,.bool xn,.int .i64 xd,.slice ta2 t2.length tc2,.int .i64 n2,.bool o2] rfl rfl (Nat.le_of_ble_eq_true rfl) rfl [.int .i64 xs,.slice xa xq.length xc,.bool xl,.int .i64 xt,.int .i64 xat,.bool xn,.int .i64 xd,.slice ta2 t2.length tc2,.int .i64 n2,.bool o2] rfl ?_))
   intro w41 hst
   have HBz:=hZq (hst.bel HB.out (show w.heap.size≤w.heap.size+1+1 by omega))
   have BRz:=hZq (hst.keep BR.out (show ¬ w.heap.size+1+1+1=w.heap.size+1+1 by omega))
   have RSz:=hZq hst.at'
   have HVz:=hZq (Chgs.sta HV.out hst RS.out rfl)
   have HCz:=hZq (Tab.sta HC.out hst RS.out rfl)
   clear hst HB BR RS HV HC
   have HB:=HBz
   have BR:=BRz
   have RS:=RSz
   have HV:=HVz
   have HC:=HCz
   clear HBz BRz RSz HVz HCz
   go_wp2_with fail
   refine retA aggSide _ (w.heap.size+1+1) Tryz.results14 rfl (cs:=[.int .i64 xs,.slice xa xq.length xc,.bool xl,.int .i64 xt,.int .i64 xat,.bool xn,.int .i64 xd,.slice ta2 t2.length tc2,.int .i64 n2,.bool o2]) RS.out rfl rfl ?_
   exact⟨_,_,rfl,HV.out,HC.out,HB.out⟩

theorem rpround {w:World} {v cv vv:Value} {ql:List Chg} {ct view:List Row} (hv:Chgs w v ql) (hc:Tab w cv ct) (ht:Tab w vv view) (hs:ShortC ql) (hl:ql.length≤100) (hsT:Short ct) (hlT:ct.length≤1000) (hsh:Short view) (ca cb cd ce seq tok at' dg now nn:Int) (la sn oo:Bool)
  {xs xt xat xd n2:Int} {xq:List Chg} {xl xn o2:Bool} {t2:List Row} (h:Hid (rpRound ⟨ca,cb,cd,ce⟩ view now (⟨seq,⟨ql,la⟩,⟨tok,at'⟩,sn,dg⟩,⟨ct,nn,oo⟩)=(⟨xs,⟨xq,xl⟩,⟨xt,xat⟩,xn,xd⟩,⟨t2,n2,o2⟩))) :
  Calls Tryz.prog 14 #[.agg #[.int .i64 ca,.int .i64 cb,.int .i64 cd,.int .i64 ce],.agg #[.int .i64 seq,v,.bool la,.int .i64 tok,.int .i64 at',.bool sn,.int .i64 dg,cv,.int .i64 nn,.bool oo],vv,.int .i64 now] w fun e w' => ∃ u tv,e=.returned (.agg #[.int .i64 xs,u,.bool xl,.int .i64 xt,.int .i64 xat,.bool xn,.int .i64 xd,tv,.int .i64 n2,.bool o2])∧Chgs w' u xq∧Tab w' tv t2∧Below w.heap.size w w':=by
 obtain⟨m,fs,he⟩ : ∃ m fs,lnEmit ⟨ca,cb,cd,ce⟩ ⟨seq,⟨ql,la⟩,⟨tok,at'⟩,sn,dg⟩ view now=(m,fs):=⟨_,_,rfl⟩
 obtain⟨d,hd⟩ : ∃ d,fs.foldl clFeed ⟨ct,nn,oo⟩=d:=⟨_,rfl⟩
 obtain⟨s,r,ha⟩ : ∃ s r,clAsk d=(s,r):=⟨_,_,rfl⟩
 have h:=h.out
 rw [round_parts he hd ha] at h
 obtain⟨h1,rfl⟩:=Prod.mk.inj h
 obtain⟨ms,⟨mq,ml⟩,⟨mt,ma⟩,mn,md⟩:=m
 exact rpround_in hv hc ht hs hl hsT hlT hsh ca cb cd ce seq tok at' dg now nn la sn oo (hZq he) (hZq hd) (hZq ha) (hZq h1)
end
section
open Go.RowKit

theorem rpsettle {w:World} {v cv vv:Value} {ql:List Chg} {ct view:List Row} (hv:Chgs w v ql) (hc:Tab w cv ct) (ht:Tab w vv view) (hs:ShortC ql) (hl:ql.length≤100) (hsT:Short ct) (hlT:ct.length≤1000) (hsh:Short view) (ca cb cd ce seq tok at' dg now nn rounds:Int) (la sn oo:Bool) (hnow:-9223372036854775808≤now) (hnow2:now≤9223372036854770000)
  {xs xt xat xd n2:Int} {xq:List Chg} {xl xn o2:Bool} {t2:List Row} (h:Hid (rpSettle ⟨ca,cb,cd,ce⟩ view (min rounds 3000).toNat now (⟨seq,⟨ql,la⟩,⟨tok,at'⟩,sn,dg⟩,⟨ct,nn,oo⟩)=(⟨xs,⟨xq,xl⟩,⟨xt,xat⟩,xn,xd⟩,⟨t2,n2,o2⟩))) :
  Calls Tryz.prog 16 #[.agg #[.int .i64 ca,.int .i64 cb,.int .i64 cd,.int .i64 ce],.agg #[.int .i64 seq,v,.bool la,.int .i64 tok,.int .i64 at',.bool sn,.int .i64 dg,cv,.int .i64 nn,.bool oo],vv,.int .i64 now,.int .i64 rounds] w fun e w' => ∃ u tv,e=.returned (.agg #[.int .i64 xs,u,.bool xl,.int .i64 xt,.int .i64 xat,.bool xn,.int .i64 xd,tv,.int .i64 n2,.bool o2])∧Chgs w' u xq∧Tab w' tv t2∧Below w.heap.size w w':=by
 obtain⟨qa,qc,rfl,-⟩:=hv.open'
 obtain⟨ta,tc,rfl,-⟩:=hc.open'
 obtain⟨va,vc,rfl,-⟩:=ht.open'
 have HT0:=hZq ht
 have HFIT:=hZq (RpFit.mk (s:=(⟨seq,⟨ql,la⟩,⟨tok,at'⟩,sn,dg⟩,⟨ct,nn,oo⟩)) hs hl hsT hlT)
 obtain⟨GB,SD,RS,HB⟩:=ent3 w (.cells #[.int .i64 ca,.int .i64 cb,.int .i64 cd,.int .i64 ce] 23) (.cells #[.int .i64 seq,.slice qa ql.length qc,.bool la,.int .i64 tok,.int .i64 at',.bool sn,.int .i64 dg,.slice ta ct.length tc,.int .i64 nn,.bool oo] 41) (.cells #[.int .i64 0,.slice none 0 0,.bool false,.int .i64 0,.int .i64 0,.bool false,.int .i64 0,.slice none 0 0,.int .i64 0,.bool false] 41)
 have HV:=hZq ((hv).later HB.out)
 have HC:=hZq ((hc).later HB.out)
 clear hv hc ht hs hl hsT hlT
 go_enter Tryz.func16,Tryz.ntmps16
 go_wp2_with fail
 generalize hm:min rounds 3000=m at h
 generalize hN:m.toNat=N at h
 have hN2:N≤3000:=by omega
 go_loopw [14] (fun i wr => ∃ (k:Nat) (ys ytk yat ydg yn:Int) (yq:List Chg) (yl ysn yo:Bool) (yt:List Row) (ya yb:Option Addr) (yc yd:Nat),k≤N∧i=.int .i64 k∧Hid (rpSettle ⟨ca,cb,cd,ce⟩ view k now (⟨seq,⟨ql,la⟩,⟨tok,at'⟩,sn,dg⟩,⟨ct,nn,oo⟩)=(⟨ys,⟨yq,yl⟩,⟨ytk,yat⟩,ysn,ydg⟩,⟨yt,yn,yo⟩))∧Hid (Chgs wr (.slice ya yq.length yd) yq)∧Hid (Tab wr (.slice yb yt.length yc) yt)∧Hid (wr.heap[w.heap.size+1]?=some (.cells #[.int .i64 ys,.slice ya yq.length yd,.bool yl,.int .i64 ytk,.int .i64 yat,.bool ysn,.int .i64 ydg,.slice yb yt.length yc,.int .i64 yn,.bool yo] 41 (0,0)))∧Hid (wr.heap[w.heap.size]?=some (.cells #[.int .i64 ca,.int .i64 cb,.int .i64 cd,.int .i64 ce] 23 (0,0)))∧Hid (wr.heap[w.heap.size+1+1]?=some (.cells #[.int .i64 0,.slice none 0 0,.bool false,.int .i64 0,.int .i64 0,.bool false,.int .i64 0,.slice none 0 0,.int .i64 0,.bool false] 41 (0,0)))∧Hid (Below w.heap.size w wr)) (fun i _ => N+1 - (intOf i).toNat)
 case atStart => exact⟨0,seq,tok,at',dg,nn,ql,la,sn,oo,ct,qa,ta,tc,qc,by omega,rfl,hZq rfl,HV,HC,SD,GB,RS,HB⟩
 case round =>
  clear HV HC SD GB RS HB
  obtain⟨k,ys,ytk,yat,ydg,yn,yq,yl,ysn,yo,yt,ya,yb,yc,yd,hk,rfl,HK,HV,HC,SD,GB,RS,HB⟩:=hrel
  have HFK:=hZq (settle_fit (cfg:=⟨ca,cb,cd,ce⟩) (view:=view) k (t:=now) HFIT.out)
  rw [HK.out] at HFK
  by_cases hlt:k < N
  ·have hkm:(k:Int) < m:=by omega
   have w1:IntKind.i64.wrap (now+1)=now+1:=IntWalk.i64_in _ (by omega)
   have w2:IntKind.i64.wrap (now+1+(k:Int))=now+1+(k:Int):=IntWalk.i64_in _ (by omega)
   obtain⟨⟨zs,⟨zq,zl⟩,⟨ztk,zat⟩,zsn,zdg⟩,⟨zt,zn,zo⟩,hz⟩ : ∃ Z1 Z2,rpRound ⟨ca,cb,cd,ce⟩ view (now+1+(k:Int)) (⟨ys,⟨yq,yl⟩,⟨ytk,yat⟩,ysn,ydg⟩,⟨yt,yn,yo⟩)=(Z1,Z2):=⟨_,_,rfl⟩
   have HZ:=hZq hz
   clear hz
   have HK2:=hZq (show rpSettle ⟨ca,cb,cd,ce⟩ view (k+1) now (⟨seq,⟨ql,la⟩,⟨tok,at'⟩,sn,dg⟩,⟨ct,nn,oo⟩)=(⟨zs,⟨zq,zl⟩,⟨ztk,zat⟩,zsn,zdg⟩,⟨zt,zn,zo⟩) by
    rw [rpSettle_last,HK.out,← HZ.out,show now+(k:Int)+1=(now+1+(k:Int)) by omega])
   go_wp2_with (first | (with_reducible refine ldA aggCfg _ rfl rfl (w.heap.size) 0 rfl GB.out [.int .i64 ca,.int .i64 cb,.int .i64 cd,.int .i64 ce] rfl rfl ?_) | (with_reducible refine ldA aggSide _ rfl rfl (w.heap.size+1) 0 rfl SD.out [.int .i64 ys,.slice ya yq.length yd,.bool yl,.int .i64 ytk,.int .i64 yat,.bool ysn,.int .i64 ydg,.slice yb yt.length yc,.int .i64 yn,.bool yo] rfl rfl ?_))
   refine (rpround HV.out HC.out (HT0.out.later HB.out) HFK.out.sc HFK.out.ql HFK.out.st HFK.out.tl hsh ca cb cd ce ys ytk yat ydg (now+1+(k:Int)) yn yl ysn yo HZ).mono ?_
   rintro e w11 ⟨u,tv,rfl,hU,hT,b11⟩
   replace GB:=hZq (upQ GB.out b11)
   replace SD:=hZq (upQ SD.out b11)
   replace RS:=hZq (upQ RS.out b11)
   replace HV:=hZq (HV.out.later b11)
   replace HC:=hZq (HC.out.later b11)
   replace HB:=hZq (below2Z HB.out b11)
   obtain⟨za,zd,rfl,-⟩:=hU.open'
   obtain⟨zb,zc,rfl,-⟩:=hT.open'
   clear HV HC
   have HV:=hZq hU
   have HC:=hZq hT
   clear hU hT
   clear b11
   go_wp2_with (with_reducible refine stA aggSide _ _ rfl rfl (w.heap.size+1) 0 rfl SD.out [.int .i64 zs,.slice za zq.length zd,.bool zl,.int .i64 ztk,.int .i64 zat,.bool zsn,.int .i64 zdg,.slice zb zt.length zc,.int .i64 zn,.bool zo] rfl rfl (Nat.le_of_ble_eq_true rfl) rfl [.int .i64 zs,.slice za zq.length zd,.bool zl,.int .i64 ztk,.int .i64 zat,.bool zsn,.int .i64 zdg,.slice zb zt.length zc,.int .i64 zn,.bool zo] rfl ?_)
   intro w12 hst
   have HBz:=hZq (hst.bel HB.out (show w.heap.size≤w.heap.size+1 by omega))
   have GBz:=hZq (hst.keep GB.out (show ¬ w.heap.size=w.heap.size+1 by omega))
   have SDz:=hZq hst.at'
   have RSz:=hZq (hst.keep RS.out (show ¬ w.heap.size+1+1=w.heap.size+1 by omega))
   have HVz:=hZq (Chgs.sta HV.out hst SD.out rfl)
   have HCz:=hZq (Tab.sta HC.out hst SD.out rfl)
   clear hst HB GB SD RS HV HC
   have HB:=HBz
   have GB:=GBz
   have SD:=SDz
   have RS:=RSz
   have HV:=HVz
   have HC:=HCz
   clear HBz GBz SDz RSz HVz HCz
   go_wp2_with fail
   go_roundw
   case rel => exact⟨k+1,zs,ztk,zat,zdg,zn,zq,zl,zsn,zo,zt,za,zb,zc,zd,by omega,by go_num,HK2,HV,HC,SD,GB,RS,HB⟩
   case measure => simp [intOf]; omega
  ·obtain rfl:k=N:=by omega
   have HE:Hid (((⟨ys,⟨yq,yl⟩,⟨ytk,yat⟩,ysn,ydg⟩ : Lnk),(⟨yt,yn,yo⟩ : Cli))=((⟨xs,⟨xq,xl⟩,⟨xt,xat⟩,xn,xd⟩ : Lnk),(⟨t2,n2,o2⟩ : Cli))):=hZq (by rw [← HK.out,← h.out])
   obtain⟨h1,h2⟩:=Prod.mk.inj HE.out
   obtain⟨rfl,h3,h4,rfl,rfl⟩:=Lnk.mk.inj h1
   obtain⟨rfl,rfl⟩:=Que.mk.inj h3
   obtain⟨rfl,rfl⟩:=Bkt.mk.inj h4
   obtain⟨rfl,rfl,rfl⟩:=Cli.mk.inj h2
   clear HE h1 h2 h3 h4 HK HFK
   have hkm:¬ ((k:Int) < m):=by omega
   go_wp2_with (first | (with_reducible refine ldA aggSide _ rfl rfl (w.heap.size+1) 0 rfl SD.out [.int .i64 ys,.slice ya yq.length yd,.bool yl,.int .i64 ytk,.int .i64 yat,.bool ysn,.int .i64 ydg,.slice yb yt.length yc,.int .i64 yn,.bool yo] rfl rfl ?_) | (with_reducible refine stA aggSide _ _ rfl rfl (w.heap.size+1+1) 0 rfl RS.out [.int .i64 ys,.slice ya yq.length yd,.bool yl,.int .i64 ytk,.int .i64 yat,.bool ysn,.int .i64 ydg,.slice yb yt.length yc,.int .i64 yn,.bool yo] rfl rfl (Nat.le_of_ble_eq_true rfl) rfl [.int .i64 ys,.slice ya yq.length yd,.bool yl,.int .i64 ytk,.int .i64 yat,.bool ysn,.int .i64 ydg,.slice yb yt.length yc,.int .i64 yn,.bool yo] rfl ?_))
   intro w41 hst
   have HBz:=hZq (hst.bel HB.out (show w.heap.size≤w.heap.size+1+1 by omega))
   have GBz:=hZq (hst.keep GB.out (show ¬ w.heap.size=w.heap.size+1+1 by omega))
   have SDz:=hZq (hst.keep SD.out (show ¬ w.heap.size+1=w.heap.size+1+1 by omega))
   have RSz:=hZq hst.at'
   have HVz:=hZq (Chgs.sta HV.out hst RS.out rfl)
   have HCz:=hZq (Tab.sta HC.out hst RS.out rfl)
   clear hst HB GB SD RS HV HC
   have HB:=HBz
   have GB:=GBz
   have SD:=SDz
   have RS:=RSz
   have HV:=HVz
   have HC:=HCz
   clear HBz GBz SDz RSz HVz HCz
   go_wp2_with fail
   refine retA aggSide _ (w.heap.size+1+1) Tryz.results16 rfl (cs:=[.int .i64 ys,.slice ya yq.length yd,.bool yl,.int .i64 ytk,.int .i64 yat,.bool ysn,.int .i64 ydg,.slice yb yt.length yc,.int .i64 yn,.bool yo]) RS.out rfl rfl ?_
   exact⟨_,_,rfl,HV.out,HC.out,HB.out⟩
end
section
open Go.RowKit

theorem tab_oneR {W:World} {B:Nat} {c st:List UInt8} {a b d:Int} (h:W.heap[B]?=some (.cells #[.string ⟨c.toArray⟩,.int .i64 a,.int .i64 b,.int .i64 d,.string ⟨st.toArray⟩] 73 (0,0))):Tab W (.slice (some ⟨B,0,none⟩) 1 1) [⟨c,⟨a,b,d,st⟩⟩]:=by
 have h:=cellsAt_block h
 refine ⟨_,1,rfl,by simp,by decide,(fun e => by cases e),.inr ⟨B,0,rfl,World.block_lt_of_cell? W _ (h 0 _ rfl),fun i hi => ?_⟩⟩
 obtain rfl:i=0:=by simpa using hi
 exact⟨h 0 _ rfl,h 1 _ rfl,h 2 _ rfl,h 3 _ rfl,h 4 _ rfl⟩

theorem tab_nilR (X:World):Tab X (.slice none 0 0) []:=OwnR.tab (ownR_nil X 0)

theorem short_nilR:Short []:=fun r h => by cases h

def rpV:List Row:=[⟨[97],⟨4,0,0,[]⟩⟩]
def rpS:List UInt8:=cseal (frPlain ⟨4,1,false,[],⟨0,0,0,[]⟩,0,[]⟩)
theorem rl_n:Hid (lnNew ⟨1,1,1,5⟩ 0=(⟨0,⟨[],false⟩,⟨1,0⟩,true,0⟩,0)):=by show _=_; kernel_rfl
theorem rl_a:Hid (rpRound ⟨1,1,1,5⟩ rpV 0 (⟨0,⟨[],false⟩,⟨1,0⟩,true,0⟩,⟨[],0,false⟩)=(⟨1,⟨[],false⟩,⟨0,0⟩,false,0⟩,⟨rpV,1,false⟩)):=by show _=_; kernel_rfl
theorem rl_z:Hid (rpSettle ⟨1,1,1,5⟩ rpV (min (5:Int) 3000).toNat 0 (⟨1,⟨[],false⟩,⟨0,0⟩,false,0⟩,⟨[],1,false⟩)=(⟨2,⟨[],false⟩,⟨0,5⟩,true,5⟩,⟨[],2,true⟩)):=by show _=_; kernel_rfl
theorem rl_w:Hid (rpSettle ⟨1,1,1,5⟩ rpV (min (1:Int) 3000).toNat 5 (⟨2,⟨[],false⟩,⟨0,5⟩,true,5⟩,⟨[],2,true⟩)=(⟨3,⟨[],false⟩,⟨0,6⟩,false,6⟩,⟨rpV,3,false⟩)):=by show _=_; kernel_rfl
theorem rl_r:Hid (rpRead ⟨1,⟨[],false⟩,⟨0,0⟩,false,0⟩ rpS=(⟨1,⟨[],false⟩,⟨0,0⟩,true,0⟩,0)):=by show _=_; kernel_rfl
theorem rl_x:Hid (rpRead ⟨1,⟨[],false⟩,⟨0,0⟩,false,0⟩ [120]=(⟨1,⟨[],false⟩,⟨0,0⟩,false,0⟩,2)):=by show _=_; kernel_rfl
theorem rl_s:Hid (rpSynced (⟨1,⟨[],false⟩,⟨0,0⟩,false,0⟩,⟨rpV,1,false⟩) rpV=true):=by show _=_; kernel_rfl
theorem rl_t:Hid (rpSynced (⟨1,⟨[],false⟩,⟨0,0⟩,false,0⟩,⟨[],1,false⟩) rpV=false):=by show _=_; kernel_rfl
theorem rl_u:Hid (rpSynced (⟨3,⟨[],false⟩,⟨0,6⟩,false,6⟩,⟨rpV,3,false⟩) rpV=true):=by show _=_; kernel_rfl
theorem rl_b:Hid (rpBound ⟨1,1,1,5⟩=8):=by show _=_; kernel_rfl
theorem rl_c:Hid (rpBound ⟨0,0,0,0⟩=0):=by show _=_; kernel_rfl
theorem rl_v:Short rpV:=by intro r hr; simp only [rpV,List.mem_singleton] at hr; subst hr; exact⟨by decide,by decide⟩
theorem rl_q:ShortC []:=fun x hx => by cases hx
theorem rl_l:rpS.length≤4294967296:=by unfold rpS; rw [seal_lenP]; decide
theorem tab_shapeV {w:World} {v:Value} (h:Tab w v rpV):∃ a c,v=.slice a 1 c:=by
 obtain⟨a,c,e,-⟩:=h.open'
 exact⟨a,c,e⟩
theorem tab_shapeN {w:World} {v:Value} (h:Tab w v []):∃ a c,v=.slice a 0 c:=by
 obtain⟨a,c,e,-⟩:=h.open'
 exact⟨a,c,e⟩
theorem chg_shapeN {w:World} {v:Value} (h:Chgs w v []):∃ a c,v=.slice a 0 c:=by
 obtain⟨a,c,e,-⟩:=h.open'
 exact⟨a,c,e⟩
theorem rpbound_v {ca cb cd ce:Int} {r:Int} (h:Hid (rpBound ⟨ca,cb,cd,ce⟩=r)) (w:World):Calls Tryz.prog 20 #[.agg #[.int .i64 ca,.int .i64 cb,.int .i64 cd,.int .i64 ce]] w fun e w' => e=.returned (.int .i64 r)∧Below w.heap.size w w':=by
 rw [← h.out]
 exact rpbound_any ca cb cd ce w

theorem rplain_r (w:World):Calls Tryz.prog 55 #[.agg #[.int .i64 4,.int .i64 1,.bool false,.string ⟨#[]⟩,.int .i64 0,.int .i64 0,.int .i64 0,.string ⟨#[]⟩,.int .u64 0,.slice none 0 0]] w fun e w' => e=.returned (.string ⟨(frPlain ⟨4,1,false,[],⟨0,0,0,[]⟩,0,[]⟩).toArray⟩)∧Below w.heap.size w w':=rplain_4 (ta:=none) (tc:=0) 1 (by decide)

theorem rfrenc_r (w:World):Calls Tryz.prog 26 #[.agg #[.int .i64 4,.int .i64 1,.bool false,.string ⟨#[]⟩,.int .i64 0,.int .i64 0,.int .i64 0,.string ⟨#[]⟩,.int .u64 0,.slice none 0 0]] w fun e w' => e=.returned (.tuple #[.string ⟨rpS.toArray⟩,.int .i64 0])∧Below w.heap.size w w':=by
 have hpl:(frPlain ⟨4,1,false,[],⟨0,0,0,[]⟩,0,[]⟩).length≤4294967296:=by decide
 obtain⟨p,hp⟩ : ∃ p,frPlain ⟨4,1,false,[],⟨0,0,0,[]⟩,0,[]⟩=p:=⟨_,rfl⟩
 have HPL:=hZq (rplain_r)
 rw [hp] at hpl HPL
 have HP:=hZq hp
 clear hp
 obtain⟨FB,HB⟩:=ent1 w (.cells #[.int .i64 4,.int .i64 1,.bool false,.string ⟨#[]⟩,.int .i64 0,.int .i64 0,.int .i64 0,.string ⟨#[]⟩,.int .u64 0,.slice none 0 0] 56)
 go_enter Tryz.func26,Tryz.ntmps26
 go_wp2_with (with_reducible refine ldA aggFrame _ rfl rfl (w.heap.size) 0 rfl FB.out [.int .i64 4,.int .i64 1,.bool false,.string ⟨#[]⟩,.int .i64 0,.int .i64 0,.int .i64 0,.string ⟨#[]⟩,.int .u64 0,.slice none 0 0] rfl rfl ?_)
 refine (rfm_4z (tab_nilR _) (by decide) (by decide)).mono ?_
 rintro e w1 ⟨rfl,b1⟩
 replace FB:=hZq (upQ FB.out b1)
 replace HB:=hZq (below2Z HB.out b1)
 clear b1
 go_wp2_with (with_reducible refine ldA aggFrame _ rfl rfl (w.heap.size) 0 rfl FB.out [.int .i64 4,.int .i64 1,.bool false,.string ⟨#[]⟩,.int .i64 0,.int .i64 0,.int .i64 0,.string ⟨#[]⟩,.int .u64 0,.slice none 0 0] rfl rfl ?_)
 refine (HPL.out _).mono ?_
 rintro e w2 ⟨rfl,b2⟩
 replace FB:=hZq (upQ FB.out b2)
 replace HB:=hZq (below2Z HB.out b2)
 clear b2
 go_wp2_with fail
 refine (rseal_any p hpl _).mono ?_
 rintro e w3 ⟨rfl,b3⟩
 replace FB:=hZq (upQ FB.out b3)
 replace HB:=hZq (below2Z HB.out b3)
 clear b3
 go_wp2_with fail
 go_ret2
 exact⟨by rw [show rpS=cseal p by rw [← HP.out]; rfl]; rfl,HB.out⟩

set_option maxRecDepth 1000000 in
theorem live20 (w:World):Calls Tryz.prog 11 #[] w fun e w' => e=.returned (.bool true)∧Below w.heap.size w w':=by
 have HB:=hZq (Below.refl w.heap.size w)
 go_enter Tryz.func11,Tryz.ntmps11
 have b1:=bl_newZ w (.cells #[.int .i64 0,.int .i64 0,.int .i64 0,.int .i64 0] 23)
 have GB:=newQ w (.cells #[.int .i64 0,.int .i64 0,.int .i64 0,.int .i64 0] 23)
 have hGB:w.heap.size≤w.heap.size:=HB.out.size
 replace HB:=hZq (below2Z HB.out b1)
 clear b1
 replace GB:=hZq GB
 go_wp2_with (with_reducible refine stA aggCfg _ _ rfl rfl (w.heap.size) 0 rfl GB.out [.int .i64 1,.int .i64 1,.int .i64 1,.int .i64 5] rfl rfl (Nat.le_of_ble_eq_true rfl) rfl [.int .i64 1,.int .i64 1,.int .i64 1,.int .i64 5] rfl ?_)
 intro w2 hst
 have HBz:=hZq (hst.bel HB.out (show w.heap.size≤w.heap.size by omega))
 have GBz:=hZq hst.at'
 clear hst HB GB
 have HB:=HBz
 have GB:=GBz
 clear HBz GBz
 go_upto_region 3 with fail
 have hsGB:=(Array.getElem?_eq_some_iff.1 GB.out).1
 have b3:=bl_newZ w2 (.cells #[.string ⟨#[97]⟩,.int .i64 4,.int .i64 0,.int .i64 0,.string ⟨#[]⟩] 73)
 have VB:=newQ w2 (.cells #[.string ⟨#[97]⟩,.int .i64 4,.int .i64 0,.int .i64 0,.string ⟨#[]⟩] 73)
 have hVB:w.heap.size≤w2.heap.size:=HB.out.size
 replace GB:=hZq (upQ GB.out b3)
 replace HB:=hZq (below2Z HB.out b3)
 clear b3
 replace VB:=hZq VB
 generalize w2.alloc (.cells #[.string ⟨#[97]⟩,.int .i64 4,.int .i64 0,.int .i64 0,.string ⟨#[]⟩] 73)=w4 at GB VB HB ⊢
 have TV:Hid (Tab w4 (.slice (some ⟨w2.heap.size,0,none⟩) 1 1) rpV):=hZq (tab_oneR VB.out)
 clear VB
 clear hVB hsGB
 generalize w2.heap.size=BV at TV ⊢
 go_wp2_with (with_reducible refine ldA aggCfg _ rfl rfl (w.heap.size) 0 rfl GB.out [.int .i64 1,.int .i64 1,.int .i64 1,.int .i64 5] rfl rfl ?_)
 refine (rlnew_eq 1 1 1 5 0 rl_n _).mono ?_
 rintro e w5 ⟨rfl,b5⟩
 replace GB:=hZq (upQ GB.out b5)
 replace TV:=hZq (Tab.later TV.out b5)
 replace HB:=hZq (below2Z HB.out b5)
 clear b5
 have hsGB:=(Array.getElem?_eq_some_iff.1 GB.out).1
 have b6:=bl_newZ w5 (.cells #[.int .i64 0,.slice none 0 0,.bool false,.int .i64 0,.int .i64 0,.bool false,.int .i64 0] 30)
 have LB:=newQ w5 (.cells #[.int .i64 0,.slice none 0 0,.bool false,.int .i64 0,.int .i64 0,.bool false,.int .i64 0] 30)
 have hLB:w.heap.size≤w5.heap.size:=HB.out.size
 replace GB:=hZq (upQ GB.out b6)
 replace TV:=hZq (Tab.later TV.out b6)
 replace HB:=hZq (below2Z HB.out b6)
 clear b6
 replace LB:=hZq LB
 go_wp2_with (with_reducible refine stA aggLink _ _ rfl rfl (w5.heap.size) 0 rfl LB.out [.int .i64 0,.slice none 0 0,.bool false,.int .i64 1,.int .i64 0,.bool true,.int .i64 0] rfl rfl (Nat.le_of_ble_eq_true rfl) rfl [.int .i64 0,.slice none 0 0,.bool false,.int .i64 1,.int .i64 0,.bool true,.int .i64 0] rfl ?_)
 intro w7 hst
 have HBz:=hZq (hst.bel HB.out (show w.heap.size≤w5.heap.size by omega))
 have GBz:=hZq (hst.keep GB.out (show ¬ w.heap.size=w5.heap.size by omega))
 have LBz:=hZq hst.at'
 have TVz:=hZq (Tab.sta TV.out hst LB.out rfl)
 clear hst HB GB LB TV
 have HB:=HBz
 have GB:=GBz
 have LB:=LBz
 have TV:=TVz
 clear HBz GBz LBz TVz
 generalize w5.heap.size=BLB at LB hLB hsGB ⊢
 have dLBGB:¬ w.heap.size=BLB:=by omega
 have eLBGB:¬ BLB=w.heap.size:=by omega
 clear hsGB
 go_wp2_with fail
 refine (rfrenc_r _).mono ?_
 rintro e w8 ⟨rfl,b8⟩
 replace GB:=hZq (upQ GB.out b8)
 replace LB:=hZq (upQ LB.out b8)
 replace TV:=hZq (Tab.later TV.out b8)
 replace HB:=hZq (below2Z HB.out b8)
 clear b8
 go_wp2_with (first | (with_reducible refine ldA aggCfg _ rfl rfl (w.heap.size) 0 rfl GB.out [.int .i64 1,.int .i64 1,.int .i64 1,.int .i64 5] rfl rfl ?_) | (with_reducible refine ldA aggLink _ rfl rfl (BLB) 0 rfl LB.out [.int .i64 0,.slice none 0 0,.bool false,.int .i64 1,.int .i64 0,.bool true,.int .i64 0] rfl rfl ?_))
 refine (rpround (chgs_nilL _) (tab_nilR _) TV.out rl_q (by decide) short_nilR (by decide) rl_v 1 1 1 5 0 1 0 0 0 0 false true false rl_a).mono ?_
 rintro e w9 ⟨u,tv,rfl,hU,hT,b9⟩
 replace GB:=hZq (upQ GB.out b9)
 replace LB:=hZq (upQ LB.out b9)
 replace TV:=hZq (Tab.later TV.out b9)
 replace HB:=hZq (below2Z HB.out b9)
 obtain⟨xa,xc,rfl⟩:=chg_shapeN hU
 obtain⟨ya,yc,rfl⟩:=tab_shapeV hT
 have QX:=hZq hU
 have TX:=hZq hT
 clear hU hT
 clear b9
 have hsGB:=(Array.getElem?_eq_some_iff.1 GB.out).1
 have hsLB:=(Array.getElem?_eq_some_iff.1 LB.out).1
 have b10:=bl_newZ w9 (.cells #[.int .i64 0,.slice none 0 0,.bool false,.int .i64 0,.int .i64 0,.bool false,.int .i64 0,.slice none 0 0,.int .i64 0,.bool false] 41)
 have XS:=newQ w9 (.cells #[.int .i64 0,.slice none 0 0,.bool false,.int .i64 0,.int .i64 0,.bool false,.int .i64 0,.slice none 0 0,.int .i64 0,.bool false] 41)
 have hXS:w.heap.size≤w9.heap.size:=HB.out.size
 replace GB:=hZq (upQ GB.out b10)
 replace LB:=hZq (upQ LB.out b10)
 replace TV:=hZq (Tab.later TV.out b10)
 replace QX:=hZq (Chgs.later QX.out b10)
 replace TX:=hZq (Tab.later TX.out b10)
 replace HB:=hZq (below2Z HB.out b10)
 clear b10
 replace XS:=hZq XS
 go_wp2_with (with_reducible refine stA aggSide _ _ rfl rfl (w9.heap.size) 0 rfl XS.out [.int .i64 1,.slice xa 0 xc,.bool false,.int .i64 0,.int .i64 0,.bool false,.int .i64 0,.slice ya 1 yc,.int .i64 1,.bool false] rfl rfl (Nat.le_of_ble_eq_true rfl) rfl [.int .i64 1,.slice xa 0 xc,.bool false,.int .i64 0,.int .i64 0,.bool false,.int .i64 0,.slice ya 1 yc,.int .i64 1,.bool false] rfl ?_)
 intro w11 hst
 have HBz:=hZq (hst.bel HB.out (show w.heap.size≤w9.heap.size by omega))
 have GBz:=hZq (hst.keep GB.out (show ¬ w.heap.size=w9.heap.size by omega))
 have LBz:=hZq (hst.keep LB.out (show ¬ BLB=w9.heap.size by omega))
 have XSz:=hZq hst.at'
 have TVz:=hZq (Tab.sta TV.out hst XS.out rfl)
 have QXz:=hZq (Chgs.sta QX.out hst XS.out rfl)
 have TXz:=hZq (Tab.sta TX.out hst XS.out rfl)
 clear hst HB GB LB XS TV QX TX
 have HB:=HBz
 have GB:=GBz
 have LB:=LBz
 have XS:=XSz
 have TV:=TVz
 have QX:=QXz
 have TX:=TXz
 clear HBz GBz LBz XSz TVz QXz TXz
 generalize w9.heap.size=BXS at XS hXS hsGB hsLB ⊢
 have dXSGB:¬ w.heap.size=BXS:=by omega
 have dXSLB:¬ BLB=BXS:=by omega
 have eXSGB:¬ BXS=w.heap.size:=by omega
 have eXSLB:¬ BXS=BLB:=by omega
 clear hsGB hsLB
 have hsGB:=(Array.getElem?_eq_some_iff.1 GB.out).1
 have hsLB:=(Array.getElem?_eq_some_iff.1 LB.out).1
 have hsXS:=(Array.getElem?_eq_some_iff.1 XS.out).1
 have XS0:=XS
 have b12:=bl_newZ w11 (.cells #[.int .i64 0,.slice none 0 0,.bool false,.int .i64 0,.int .i64 0,.bool false,.int .i64 0,.slice none 0 0,.int .i64 0,.bool false] 41)
 have YS:=newQ w11 (.cells #[.int .i64 0,.slice none 0 0,.bool false,.int .i64 0,.int .i64 0,.bool false,.int .i64 0,.slice none 0 0,.int .i64 0,.bool false] 41)
 have hYS:w.heap.size≤w11.heap.size:=HB.out.size
 replace GB:=hZq (upQ GB.out b12)
 replace LB:=hZq (upQ LB.out b12)
 replace XS:=hZq (upQ XS.out b12)
 replace TV:=hZq (Tab.later TV.out b12)
 replace QX:=hZq (Chgs.later QX.out b12)
 replace TX:=hZq (Tab.later TX.out b12)
 replace HB:=hZq (below2Z HB.out b12)
 clear b12
 replace YS:=hZq YS
 go_wp2_with (first | (with_reducible refine ldA aggSide _ rfl rfl (BXS) 0 rfl XS0.out [.int .i64 1,.slice xa 0 xc,.bool false,.int .i64 0,.int .i64 0,.bool false,.int .i64 0,.slice ya 1 yc,.int .i64 1,.bool false] rfl rfl ?_) | (with_reducible refine stA aggSide _ _ rfl rfl (w11.heap.size) 0 rfl YS.out [.int .i64 1,.slice xa 0 xc,.bool false,.int .i64 0,.int .i64 0,.bool false,.int .i64 0,.slice ya 1 yc,.int .i64 1,.bool false] rfl rfl (Nat.le_of_ble_eq_true rfl) rfl [.int .i64 1,.slice xa 0 xc,.bool false,.int .i64 0,.int .i64 0,.bool false,.int .i64 0,.slice ya 1 yc,.int .i64 1,.bool false] rfl ?_))
 intro w13 hst
 have HBz:=hZq (hst.bel HB.out (show w.heap.size≤w11.heap.size by omega))
 have GBz:=hZq (hst.keep GB.out (show ¬ w.heap.size=w11.heap.size by omega))
 have LBz:=hZq (hst.keep LB.out (show ¬ BLB=w11.heap.size by omega))
 have XSz:=hZq (hst.keep XS.out (show ¬ BXS=w11.heap.size by omega))
 have YSz:=hZq hst.at'
 have TVz:=hZq (Tab.sta TV.out hst YS.out rfl)
 have QXz:=hZq (Chgs.sta QX.out hst YS.out rfl)
 have TXz:=hZq (Tab.sta TX.out hst YS.out rfl)
 clear hst HB GB LB XS YS TV QX TX
 have HB:=HBz
 have GB:=GBz
 have LB:=LBz
 have XS:=XSz
 have YS:=YSz
 have TV:=TVz
 have QX:=QXz
 have TX:=TXz
 clear HBz GBz LBz XSz YSz TVz QXz TXz
 clear XS0
 generalize w11.heap.size=BYS at YS hYS hsGB hsLB hsXS ⊢
 have dYSGB:¬ w.heap.size=BYS:=by omega
 have dYSLB:¬ BLB=BYS:=by omega
 have dYSXS:¬ BXS=BYS:=by omega
 have eYSGB:¬ BYS=w.heap.size:=by omega
 have eYSLB:¬ BYS=BLB:=by omega
 have eYSXS:¬ BYS=BXS:=by omega
 clear hsGB hsLB hsXS
 go_wp2_with (with_reducible refine st1 (by kernel_rfl) _ _ rfl rfl (BYS) 7 rfl YS.out (.slice none 0 0) rfl rfl (Nat.le_of_ble_eq_true rfl) rfl [.int .i64 1,.slice xa 0 xc,.bool false,.int .i64 0,.int .i64 0,.bool false,.int .i64 0,.slice none 0 0,.int .i64 1,.bool false] rfl ?_)
 intro w14 hst
 have HBz:=hZq (hst.bel HB.out (show w.heap.size≤BYS by omega))
 have GBz:=hZq (hst.keep GB.out (show ¬ w.heap.size=BYS by omega))
 have LBz:=hZq (hst.keep LB.out (show ¬ BLB=BYS by omega))
 have XSz:=hZq (hst.keep XS.out (show ¬ BXS=BYS by omega))
 have YSz:=hZq hst.at'
 have TVz:=hZq (Tab.sta TV.out hst YS.out rfl)
 have QXz:=hZq (Chgs.sta QX.out hst YS.out rfl)
 have TXz:=hZq (Tab.sta TX.out hst YS.out rfl)
 clear hst HB GB LB XS YS TV QX TX
 have HB:=HBz
 have GB:=GBz
 have LB:=LBz
 have XS:=XSz
 have YS:=YSz
 have TV:=TVz
 have QX:=QXz
 have TX:=TXz
 clear HBz GBz LBz XSz YSz TVz QXz TXz
 go_wp2_with (first | (with_reducible refine ldA aggCfg _ rfl rfl (w.heap.size) 0 rfl GB.out [.int .i64 1,.int .i64 1,.int .i64 1,.int .i64 5] rfl rfl ?_) | (with_reducible refine ldA aggSide _ rfl rfl (BYS) 0 rfl YS.out [.int .i64 1,.slice xa 0 xc,.bool false,.int .i64 0,.int .i64 0,.bool false,.int .i64 0,.slice none 0 0,.int .i64 1,.bool false] rfl rfl ?_))
 refine (rpsettle QX.out (tab_nilR _) TV.out rl_q (by decide) short_nilR (by decide) rl_v 1 1 1 5 1 0 0 0 0 1 5 false false false (by decide) (by decide) rl_z).mono ?_
 rintro e w15 ⟨u,tv,rfl,hU,hT,b15⟩
 replace GB:=hZq (upQ GB.out b15)
 replace LB:=hZq (upQ LB.out b15)
 replace XS:=hZq (upQ XS.out b15)
 replace YS:=hZq (upQ YS.out b15)
 replace TV:=hZq (Tab.later TV.out b15)
 replace QX:=hZq (Chgs.later QX.out b15)
 replace TX:=hZq (Tab.later TX.out b15)
 replace HB:=hZq (below2Z HB.out b15)
 obtain⟨za,zc,rfl⟩:=chg_shapeN hU
 obtain⟨zb,zd,rfl⟩:=tab_shapeN hT
 have QZ:=hZq hU
 have TZ:=hZq hT
 clear hU hT
 clear b15
 have hsGB:=(Array.getElem?_eq_some_iff.1 GB.out).1
 have hsLB:=(Array.getElem?_eq_some_iff.1 LB.out).1
 have hsXS:=(Array.getElem?_eq_some_iff.1 XS.out).1
 have hsYS:=(Array.getElem?_eq_some_iff.1 YS.out).1
 have b16:=bl_newZ w15 (.cells #[.int .i64 0,.slice none 0 0,.bool false,.int .i64 0,.int .i64 0,.bool false,.int .i64 0,.slice none 0 0,.int .i64 0,.bool false] 41)
 have ZS:=newQ w15 (.cells #[.int .i64 0,.slice none 0 0,.bool false,.int .i64 0,.int .i64 0,.bool false,.int .i64 0,.slice none 0 0,.int .i64 0,.bool false] 41)
 have hZS:w.heap.size≤w15.heap.size:=HB.out.size
 replace GB:=hZq (upQ GB.out b16)
 replace LB:=hZq (upQ LB.out b16)
 replace XS:=hZq (upQ XS.out b16)
 replace YS:=hZq (upQ YS.out b16)
 replace TV:=hZq (Tab.later TV.out b16)
 replace QX:=hZq (Chgs.later QX.out b16)
 replace TX:=hZq (Tab.later TX.out b16)
 replace QZ:=hZq (Chgs.later QZ.out b16)
 replace TZ:=hZq (Tab.later TZ.out b16)
 replace HB:=hZq (below2Z HB.out b16)
 clear b16
 replace ZS:=hZq ZS
 go_wp2_with (with_reducible refine stA aggSide _ _ rfl rfl (w15.heap.size) 0 rfl ZS.out [.int .i64 2,.slice za 0 zc,.bool false,.int .i64 0,.int .i64 5,.bool true,.int .i64 5,.slice zb 0 zd,.int .i64 2,.bool true] rfl rfl (Nat.le_of_ble_eq_true rfl) rfl [.int .i64 2,.slice za 0 zc,.bool false,.int .i64 0,.int .i64 5,.bool true,.int .i64 5,.slice zb 0 zd,.int .i64 2,.bool true] rfl ?_)
 intro w17 hst
 have HBz:=hZq (hst.bel HB.out (show w.heap.size≤w15.heap.size by omega))
 have GBz:=hZq (hst.keep GB.out (show ¬ w.heap.size=w15.heap.size by omega))
 have LBz:=hZq (hst.keep LB.out (show ¬ BLB=w15.heap.size by omega))
 have XSz:=hZq (hst.keep XS.out (show ¬ BXS=w15.heap.size by omega))
 have YSz:=hZq (hst.keep YS.out (show ¬ BYS=w15.heap.size by omega))
 have ZSz:=hZq hst.at'
 have TVz:=hZq (Tab.sta TV.out hst ZS.out rfl)
 have QXz:=hZq (Chgs.sta QX.out hst ZS.out rfl)
 have TXz:=hZq (Tab.sta TX.out hst ZS.out rfl)
 have QZz:=hZq (Chgs.sta QZ.out hst ZS.out rfl)
 have TZz:=hZq (Tab.sta TZ.out hst ZS.out rfl)
 clear hst HB GB LB XS YS ZS TV QX TX QZ TZ
 have HB:=HBz
 have GB:=GBz
 have LB:=LBz
 have XS:=XSz
 have YS:=YSz
 have ZS:=ZSz
 have TV:=TVz
 have QX:=QXz
 have TX:=TXz
 have QZ:=QZz
 have TZ:=TZz
 clear HBz GBz LBz XSz YSz ZSz TVz QXz TXz QZz TZz
 generalize w15.heap.size=BZS at ZS hZS hsGB hsLB hsXS hsYS ⊢
 have dZSGB:¬ w.heap.size=BZS:=by omega
 have dZSLB:¬ BLB=BZS:=by omega
 have dZSXS:¬ BXS=BZS:=by omega
 have dZSYS:¬ BYS=BZS:=by omega
 have eZSGB:¬ BZS=w.heap.size:=by omega
 have eZSLB:¬ BZS=BLB:=by omega
 have eZSXS:¬ BZS=BXS:=by omega
 have eZSYS:¬ BZS=BYS:=by omega
 clear hsGB hsLB hsXS hsYS
 go_wp2_with (first | (with_reducible refine ldA aggCfg _ rfl rfl (w.heap.size) 0 rfl GB.out [.int .i64 1,.int .i64 1,.int .i64 1,.int .i64 5] rfl rfl ?_) | (with_reducible refine ldA aggSide _ rfl rfl (BZS) 0 rfl ZS.out [.int .i64 2,.slice za 0 zc,.bool false,.int .i64 0,.int .i64 5,.bool true,.int .i64 5,.slice zb 0 zd,.int .i64 2,.bool true] rfl rfl ?_))
 refine (rpsettle QZ.out TZ.out TV.out rl_q (by decide) short_nilR (by decide) rl_v 1 1 1 5 2 0 5 5 5 2 1 false true true (by decide) (by decide) rl_w).mono ?_
 rintro e w18 ⟨u,tv,rfl,hU,hT,b18⟩
 replace GB:=hZq (upQ GB.out b18)
 replace LB:=hZq (upQ LB.out b18)
 replace XS:=hZq (upQ XS.out b18)
 replace YS:=hZq (upQ YS.out b18)
 replace ZS:=hZq (upQ ZS.out b18)
 replace TV:=hZq (Tab.later TV.out b18)
 replace QX:=hZq (Chgs.later QX.out b18)
 replace TX:=hZq (Tab.later TX.out b18)
 replace QZ:=hZq (Chgs.later QZ.out b18)
 replace TZ:=hZq (Tab.later TZ.out b18)
 replace HB:=hZq (below2Z HB.out b18)
 obtain⟨wa,wc,rfl⟩:=chg_shapeN hU
 obtain⟨wb,wd,rfl⟩:=tab_shapeV hT
 have QW:=hZq hU
 have TW:=hZq hT
 clear hU hT
 clear b18
 have hsGB:=(Array.getElem?_eq_some_iff.1 GB.out).1
 have hsLB:=(Array.getElem?_eq_some_iff.1 LB.out).1
 have hsXS:=(Array.getElem?_eq_some_iff.1 XS.out).1
 have hsYS:=(Array.getElem?_eq_some_iff.1 YS.out).1
 have hsZS:=(Array.getElem?_eq_some_iff.1 ZS.out).1
 have b19:=bl_newZ w18 (.cells #[.int .i64 0,.slice none 0 0,.bool false,.int .i64 0,.int .i64 0,.bool false,.int .i64 0,.slice none 0 0,.int .i64 0,.bool false] 41)
 have WS:=newQ w18 (.cells #[.int .i64 0,.slice none 0 0,.bool false,.int .i64 0,.int .i64 0,.bool false,.int .i64 0,.slice none 0 0,.int .i64 0,.bool false] 41)
 have hWS:w.heap.size≤w18.heap.size:=HB.out.size
 replace GB:=hZq (upQ GB.out b19)
 replace LB:=hZq (upQ LB.out b19)
 replace XS:=hZq (upQ XS.out b19)
 replace YS:=hZq (upQ YS.out b19)
 replace ZS:=hZq (upQ ZS.out b19)
 replace TV:=hZq (Tab.later TV.out b19)
 replace QX:=hZq (Chgs.later QX.out b19)
 replace TX:=hZq (Tab.later TX.out b19)
 replace QZ:=hZq (Chgs.later QZ.out b19)
 replace TZ:=hZq (Tab.later TZ.out b19)
 replace QW:=hZq (Chgs.later QW.out b19)
 replace TW:=hZq (Tab.later TW.out b19)
 replace HB:=hZq (below2Z HB.out b19)
 clear b19
 replace WS:=hZq WS
 go_wp2_with (with_reducible refine stA aggSide _ _ rfl rfl (w18.heap.size) 0 rfl WS.out [.int .i64 3,.slice wa 0 wc,.bool false,.int .i64 0,.int .i64 6,.bool false,.int .i64 6,.slice wb 1 wd,.int .i64 3,.bool false] rfl rfl (Nat.le_of_ble_eq_true rfl) rfl [.int .i64 3,.slice wa 0 wc,.bool false,.int .i64 0,.int .i64 6,.bool false,.int .i64 6,.slice wb 1 wd,.int .i64 3,.bool false] rfl ?_)
 intro w20 hst
 have HBz:=hZq (hst.bel HB.out (show w.heap.size≤w18.heap.size by omega))
 have GBz:=hZq (hst.keep GB.out (show ¬ w.heap.size=w18.heap.size by omega))
 have LBz:=hZq (hst.keep LB.out (show ¬ BLB=w18.heap.size by omega))
 have XSz:=hZq (hst.keep XS.out (show ¬ BXS=w18.heap.size by omega))
 have YSz:=hZq (hst.keep YS.out (show ¬ BYS=w18.heap.size by omega))
 have ZSz:=hZq (hst.keep ZS.out (show ¬ BZS=w18.heap.size by omega))
 have WSz:=hZq hst.at'
 have TVz:=hZq (Tab.sta TV.out hst WS.out rfl)
 have QXz:=hZq (Chgs.sta QX.out hst WS.out rfl)
 have TXz:=hZq (Tab.sta TX.out hst WS.out rfl)
 have QZz:=hZq (Chgs.sta QZ.out hst WS.out rfl)
 have TZz:=hZq (Tab.sta TZ.out hst WS.out rfl)
 have QWz:=hZq (Chgs.sta QW.out hst WS.out rfl)
 have TWz:=hZq (Tab.sta TW.out hst WS.out rfl)
 clear hst HB GB LB XS YS ZS WS TV QX TX QZ TZ QW TW
 have HB:=HBz
 have GB:=GBz
 have LB:=LBz
 have XS:=XSz
 have YS:=YSz
 have ZS:=ZSz
 have WS:=WSz
 have TV:=TVz
 have QX:=QXz
 have TX:=TXz
 have QZ:=QZz
 have TZ:=TZz
 have QW:=QWz
 have TW:=TWz
 clear HBz GBz LBz XSz YSz ZSz WSz TVz QXz TXz QZz TZz QWz TWz
 generalize w18.heap.size=BWS at WS hWS hsGB hsLB hsXS hsYS hsZS ⊢
 have dWSGB:¬ w.heap.size=BWS:=by omega
 have dWSLB:¬ BLB=BWS:=by omega
 have dWSXS:¬ BXS=BWS:=by omega
 have dWSYS:¬ BYS=BWS:=by omega
 have dWSZS:¬ BZS=BWS:=by omega
 have eWSGB:¬ BWS=w.heap.size:=by omega
 have eWSLB:¬ BWS=BLB:=by omega
 have eWSXS:¬ BWS=BXS:=by omega
 have eWSYS:¬ BWS=BYS:=by omega
 have eWSZS:¬ BWS=BZS:=by omega
 clear hsGB hsLB hsXS hsYS hsZS
 go_wp2_with (with_reducible refine ldA aggLink _ rfl rfl (BXS) 0 rfl XS.out [.int .i64 1,.slice xa 0 xc,.bool false,.int .i64 0,.int .i64 0,.bool false,.int .i64 0] rfl rfl ?_)
 refine (rpread_any QX.out rpS rl_l rl_r).mono ?_
 rintro e w21 ⟨u,rfl,hu,b21⟩
 replace GB:=hZq (upQ GB.out b21)
 replace LB:=hZq (upQ LB.out b21)
 replace XS:=hZq (upQ XS.out b21)
 replace YS:=hZq (upQ YS.out b21)
 replace ZS:=hZq (upQ ZS.out b21)
 replace WS:=hZq (upQ WS.out b21)
 replace TV:=hZq (Tab.later TV.out b21)
 replace QX:=hZq (Chgs.later QX.out b21)
 replace TX:=hZq (Tab.later TX.out b21)
 replace QZ:=hZq (Chgs.later QZ.out b21)
 replace TZ:=hZq (Tab.later TZ.out b21)
 replace QW:=hZq (Chgs.later QW.out b21)
 replace TW:=hZq (Tab.later TW.out b21)
 replace HB:=hZq (below2Z HB.out b21)
 obtain⟨ma,mc,rfl,-⟩:=rd_chgs hu QX.out
 clear hu
 clear b21
 have hsGB:=(Array.getElem?_eq_some_iff.1 GB.out).1
 have hsLB:=(Array.getElem?_eq_some_iff.1 LB.out).1
 have hsXS:=(Array.getElem?_eq_some_iff.1 XS.out).1
 have hsYS:=(Array.getElem?_eq_some_iff.1 YS.out).1
 have hsZS:=(Array.getElem?_eq_some_iff.1 ZS.out).1
 have hsWS:=(Array.getElem?_eq_some_iff.1 WS.out).1
 have b22:=bl_newZ w21 (.cells #[.int .i64 0,.slice none 0 0,.bool false,.int .i64 0,.int .i64 0,.bool false,.int .i64 0] 30)
 have MS:=newQ w21 (.cells #[.int .i64 0,.slice none 0 0,.bool false,.int .i64 0,.int .i64 0,.bool false,.int .i64 0] 30)
 have hMS:w.heap.size≤w21.heap.size:=HB.out.size
 replace GB:=hZq (upQ GB.out b22)
 replace LB:=hZq (upQ LB.out b22)
 replace XS:=hZq (upQ XS.out b22)
 replace YS:=hZq (upQ YS.out b22)
 replace ZS:=hZq (upQ ZS.out b22)
 replace WS:=hZq (upQ WS.out b22)
 replace TV:=hZq (Tab.later TV.out b22)
 replace QX:=hZq (Chgs.later QX.out b22)
 replace TX:=hZq (Tab.later TX.out b22)
 replace QZ:=hZq (Chgs.later QZ.out b22)
 replace TZ:=hZq (Tab.later TZ.out b22)
 replace QW:=hZq (Chgs.later QW.out b22)
 replace TW:=hZq (Tab.later TW.out b22)
 replace HB:=hZq (below2Z HB.out b22)
 clear b22
 replace MS:=hZq MS
 go_wp2_with (with_reducible refine stA aggLink _ _ rfl rfl (w21.heap.size) 0 rfl MS.out [.int .i64 1,.slice ma ([]:List Chg).length mc,.bool false,.int .i64 0,.int .i64 0,.bool true,.int .i64 0] rfl rfl (Nat.le_of_ble_eq_true rfl) rfl [.int .i64 1,.slice ma ([]:List Chg).length mc,.bool false,.int .i64 0,.int .i64 0,.bool true,.int .i64 0] rfl ?_)
 intro w23 hst
 have HBz:=hZq (hst.bel HB.out (show w.heap.size≤w21.heap.size by omega))
 have GBz:=hZq (hst.keep GB.out (show ¬ w.heap.size=w21.heap.size by omega))
 have LBz:=hZq (hst.keep LB.out (show ¬ BLB=w21.heap.size by omega))
 have XSz:=hZq (hst.keep XS.out (show ¬ BXS=w21.heap.size by omega))
 have YSz:=hZq (hst.keep YS.out (show ¬ BYS=w21.heap.size by omega))
 have ZSz:=hZq (hst.keep ZS.out (show ¬ BZS=w21.heap.size by omega))
 have WSz:=hZq (hst.keep WS.out (show ¬ BWS=w21.heap.size by omega))
 have MSz:=hZq hst.at'
 have TVz:=hZq (Tab.sta TV.out hst MS.out rfl)
 have QXz:=hZq (Chgs.sta QX.out hst MS.out rfl)
 have TXz:=hZq (Tab.sta TX.out hst MS.out rfl)
 have QZz:=hZq (Chgs.sta QZ.out hst MS.out rfl)
 have TZz:=hZq (Tab.sta TZ.out hst MS.out rfl)
 have QWz:=hZq (Chgs.sta QW.out hst MS.out rfl)
 have TWz:=hZq (Tab.sta TW.out hst MS.out rfl)
 clear hst HB GB LB XS YS ZS WS MS TV QX TX QZ TZ QW TW
 have HB:=HBz
 have GB:=GBz
 have LB:=LBz
 have XS:=XSz
 have YS:=YSz
 have ZS:=ZSz
 have WS:=WSz
 have MS:=MSz
 have TV:=TVz
 have QX:=QXz
 have TX:=TXz
 have QZ:=QZz
 have TZ:=TZz
 have QW:=QWz
 have TW:=TWz
 clear HBz GBz LBz XSz YSz ZSz WSz MSz TVz QXz TXz QZz TZz QWz TWz
 generalize w21.heap.size=BMS at MS hMS hsGB hsLB hsXS hsYS hsZS hsWS ⊢
 have dMSGB:¬ w.heap.size=BMS:=by omega
 have dMSLB:¬ BLB=BMS:=by omega
 have dMSXS:¬ BXS=BMS:=by omega
 have dMSYS:¬ BYS=BMS:=by omega
 have dMSZS:¬ BZS=BMS:=by omega
 have dMSWS:¬ BWS=BMS:=by omega
 have eMSGB:¬ BMS=w.heap.size:=by omega
 have eMSLB:¬ BMS=BLB:=by omega
 have eMSXS:¬ BMS=BXS:=by omega
 have eMSYS:¬ BMS=BYS:=by omega
 have eMSZS:¬ BMS=BZS:=by omega
 have eMSWS:¬ BMS=BWS:=by omega
 clear hsGB hsLB hsXS hsYS hsZS hsWS
 go_wp2_with (with_reducible refine ldA aggLink _ rfl rfl (BXS) 0 rfl XS.out [.int .i64 1,.slice xa 0 xc,.bool false,.int .i64 0,.int .i64 0,.bool false,.int .i64 0] rfl rfl ?_)
 refine (rpread_any QX.out [120] (by decide) rl_x).mono ?_
 rintro e w24 ⟨u,rfl,hu,b24⟩
 replace GB:=hZq (upQ GB.out b24)
 replace LB:=hZq (upQ LB.out b24)
 replace XS:=hZq (upQ XS.out b24)
 replace YS:=hZq (upQ YS.out b24)
 replace ZS:=hZq (upQ ZS.out b24)
 replace WS:=hZq (upQ WS.out b24)
 replace MS:=hZq (upQ MS.out b24)
 replace TV:=hZq (Tab.later TV.out b24)
 replace QX:=hZq (Chgs.later QX.out b24)
 replace TX:=hZq (Tab.later TX.out b24)
 replace QZ:=hZq (Chgs.later QZ.out b24)
 replace TZ:=hZq (Tab.later TZ.out b24)
 replace QW:=hZq (Chgs.later QW.out b24)
 replace TW:=hZq (Tab.later TW.out b24)
 replace HB:=hZq (below2Z HB.out b24)
 obtain⟨na,nc,rfl,-⟩:=rd_chgs hu QX.out
 clear hu
 clear b24
 have hsGB:=(Array.getElem?_eq_some_iff.1 GB.out).1
 have hsLB:=(Array.getElem?_eq_some_iff.1 LB.out).1
 have hsXS:=(Array.getElem?_eq_some_iff.1 XS.out).1
 have hsYS:=(Array.getElem?_eq_some_iff.1 YS.out).1
 have hsZS:=(Array.getElem?_eq_some_iff.1 ZS.out).1
 have hsWS:=(Array.getElem?_eq_some_iff.1 WS.out).1
 have hsMS:=(Array.getElem?_eq_some_iff.1 MS.out).1
 have b25:=bl_newZ w24 (.cells #[.int .i64 0,.slice none 0 0,.bool false,.int .i64 0,.int .i64 0,.bool false,.int .i64 0] 30)
 have NS:=newQ w24 (.cells #[.int .i64 0,.slice none 0 0,.bool false,.int .i64 0,.int .i64 0,.bool false,.int .i64 0] 30)
 have hNS:w.heap.size≤w24.heap.size:=HB.out.size
 replace GB:=hZq (upQ GB.out b25)
 replace LB:=hZq (upQ LB.out b25)
 replace XS:=hZq (upQ XS.out b25)
 replace YS:=hZq (upQ YS.out b25)
 replace ZS:=hZq (upQ ZS.out b25)
 replace WS:=hZq (upQ WS.out b25)
 replace MS:=hZq (upQ MS.out b25)
 replace TV:=hZq (Tab.later TV.out b25)
 replace QX:=hZq (Chgs.later QX.out b25)
 replace TX:=hZq (Tab.later TX.out b25)
 replace QZ:=hZq (Chgs.later QZ.out b25)
 replace TZ:=hZq (Tab.later TZ.out b25)
 replace QW:=hZq (Chgs.later QW.out b25)
 replace TW:=hZq (Tab.later TW.out b25)
 replace HB:=hZq (below2Z HB.out b25)
 clear b25
 replace NS:=hZq NS
 go_wp2_with (with_reducible refine stA aggLink _ _ rfl rfl (w24.heap.size) 0 rfl NS.out [.int .i64 1,.slice na ([]:List Chg).length nc,.bool false,.int .i64 0,.int .i64 0,.bool false,.int .i64 0] rfl rfl (Nat.le_of_ble_eq_true rfl) rfl [.int .i64 1,.slice na ([]:List Chg).length nc,.bool false,.int .i64 0,.int .i64 0,.bool false,.int .i64 0] rfl ?_)
 intro w26 hst
 have HBz:=hZq (hst.bel HB.out (show w.heap.size≤w24.heap.size by omega))
 have GBz:=hZq (hst.keep GB.out (show ¬ w.heap.size=w24.heap.size by omega))
 have LBz:=hZq (hst.keep LB.out (show ¬ BLB=w24.heap.size by omega))
 have XSz:=hZq (hst.keep XS.out (show ¬ BXS=w24.heap.size by omega))
 have YSz:=hZq (hst.keep YS.out (show ¬ BYS=w24.heap.size by omega))
 have ZSz:=hZq (hst.keep ZS.out (show ¬ BZS=w24.heap.size by omega))
 have WSz:=hZq (hst.keep WS.out (show ¬ BWS=w24.heap.size by omega))
 have MSz:=hZq (hst.keep MS.out (show ¬ BMS=w24.heap.size by omega))
 have NSz:=hZq hst.at'
 have TVz:=hZq (Tab.sta TV.out hst NS.out rfl)
 have QXz:=hZq (Chgs.sta QX.out hst NS.out rfl)
 have TXz:=hZq (Tab.sta TX.out hst NS.out rfl)
 have QZz:=hZq (Chgs.sta QZ.out hst NS.out rfl)
 have TZz:=hZq (Tab.sta TZ.out hst NS.out rfl)
 have QWz:=hZq (Chgs.sta QW.out hst NS.out rfl)
 have TWz:=hZq (Tab.sta TW.out hst NS.out rfl)
 clear hst HB GB LB XS YS ZS WS MS NS TV QX TX QZ TZ QW TW
 have HB:=HBz
 have GB:=GBz
 have LB:=LBz
 have XS:=XSz
 have YS:=YSz
 have ZS:=ZSz
 have WS:=WSz
 have MS:=MSz
 have NS:=NSz
 have TV:=TVz
 have QX:=QXz
 have TX:=TXz
 have QZ:=QZz
 have TZ:=TZz
 have QW:=QWz
 have TW:=TWz
 clear HBz GBz LBz XSz YSz ZSz WSz MSz NSz TVz QXz TXz QZz TZz QWz TWz
 generalize w24.heap.size=BNS at NS hNS hsGB hsLB hsXS hsYS hsZS hsWS hsMS ⊢
 have dNSGB:¬ w.heap.size=BNS:=by omega
 have dNSLB:¬ BLB=BNS:=by omega
 have dNSXS:¬ BXS=BNS:=by omega
 have dNSYS:¬ BYS=BNS:=by omega
 have dNSZS:¬ BZS=BNS:=by omega
 have dNSWS:¬ BWS=BNS:=by omega
 have dNSMS:¬ BMS=BNS:=by omega
 have eNSGB:¬ BNS=w.heap.size:=by omega
 have eNSLB:¬ BNS=BLB:=by omega
 have eNSXS:¬ BNS=BXS:=by omega
 have eNSYS:¬ BNS=BYS:=by omega
 have eNSZS:¬ BNS=BZS:=by omega
 have eNSWS:¬ BNS=BWS:=by omega
 have eNSMS:¬ BNS=BMS:=by omega
 clear hsGB hsLB hsXS hsYS hsZS hsWS hsMS
 go_wp2_with (with_reducible refine ldA aggSide _ rfl rfl (BXS) 0 rfl XS.out [.int .i64 1,.slice xa 0 xc,.bool false,.int .i64 0,.int .i64 0,.bool false,.int .i64 0,.slice ya 1 yc,.int .i64 1,.bool false] rfl rfl ?_)
 refine (rpsync_any QX.out TX.out TV.out rl_s).mono ?_
 rintro e w27 ⟨rfl,b27⟩
 replace GB:=hZq (upQ GB.out b27)
 replace LB:=hZq (upQ LB.out b27)
 replace XS:=hZq (upQ XS.out b27)
 replace YS:=hZq (upQ YS.out b27)
 replace ZS:=hZq (upQ ZS.out b27)
 replace WS:=hZq (upQ WS.out b27)
 replace MS:=hZq (upQ MS.out b27)
 replace NS:=hZq (upQ NS.out b27)
 replace TV:=hZq (Tab.later TV.out b27)
 replace QX:=hZq (Chgs.later QX.out b27)
 replace TX:=hZq (Tab.later TX.out b27)
 replace QZ:=hZq (Chgs.later QZ.out b27)
 replace TZ:=hZq (Tab.later TZ.out b27)
 replace QW:=hZq (Chgs.later QW.out b27)
 replace TW:=hZq (Tab.later TW.out b27)
 replace HB:=hZq (below2Z HB.out b27)
 clear b27
 go_wp2_with (with_reducible refine ldG aggSide _ rfl rfl (BYS) 0 rfl YS.out [.int .i64 1,.slice xa 0 xc,.bool false,.int .i64 0,.int .i64 0,.bool false,.int .i64 0,.slice none 0 0,.int .i64 1,.bool false] rfl rfl ?_)
 refine (rpsync_any QX.out (tab_nilR _) TV.out rl_t).mono ?_
 rintro e w28 ⟨rfl,b28⟩
 replace GB:=hZq (upQ GB.out b28)
 replace LB:=hZq (upQ LB.out b28)
 replace XS:=hZq (upQ XS.out b28)
 replace YS:=hZq (upQ YS.out b28)
 replace ZS:=hZq (upQ ZS.out b28)
 replace WS:=hZq (upQ WS.out b28)
 replace MS:=hZq (upQ MS.out b28)
 replace NS:=hZq (upQ NS.out b28)
 replace TV:=hZq (Tab.later TV.out b28)
 replace QX:=hZq (Chgs.later QX.out b28)
 replace TX:=hZq (Tab.later TX.out b28)
 replace QZ:=hZq (Chgs.later QZ.out b28)
 replace TZ:=hZq (Tab.later TZ.out b28)
 replace QW:=hZq (Chgs.later QW.out b28)
 replace TW:=hZq (Tab.later TW.out b28)
 replace HB:=hZq (below2Z HB.out b28)
 clear b28
 have ZSk9:=ckZ ZS.out 9 _ rfl
 have ZSk5:=ckZ ZS.out 5 _ rfl
 go_wp2_with (with_reducible refine ldG aggSide _ rfl rfl (BWS) 0 rfl WS.out [.int .i64 3,.slice wa 0 wc,.bool false,.int .i64 0,.int .i64 6,.bool false,.int .i64 6,.slice wb 1 wd,.int .i64 3,.bool false] rfl rfl ?_)
 clear ZSk9 ZSk5
 refine (rpsync_any QW.out TW.out TV.out rl_u).mono ?_
 rintro e w29 ⟨rfl,b29⟩
 replace GB:=hZq (upQ GB.out b29)
 replace LB:=hZq (upQ LB.out b29)
 replace XS:=hZq (upQ XS.out b29)
 replace YS:=hZq (upQ YS.out b29)
 replace ZS:=hZq (upQ ZS.out b29)
 replace WS:=hZq (upQ WS.out b29)
 replace MS:=hZq (upQ MS.out b29)
 replace NS:=hZq (upQ NS.out b29)
 replace TV:=hZq (Tab.later TV.out b29)
 replace QX:=hZq (Chgs.later QX.out b29)
 replace TX:=hZq (Tab.later TX.out b29)
 replace QZ:=hZq (Chgs.later QZ.out b29)
 replace TZ:=hZq (Tab.later TZ.out b29)
 replace QW:=hZq (Chgs.later QW.out b29)
 replace TW:=hZq (Tab.later TW.out b29)
 replace HB:=hZq (below2Z HB.out b29)
 clear b29
 have MSk5:=ckZ MS.out 5 _ rfl
 go_wp2_with (with_reducible refine ldG aggCfg _ rfl rfl (w.heap.size) 0 rfl GB.out [.int .i64 1,.int .i64 1,.int .i64 1,.int .i64 5] rfl rfl ?_)
 clear MSk5
 refine (rpbound_v rl_b _).mono ?_
 rintro e w30 ⟨rfl,b30⟩
 replace GB:=hZq (upQ GB.out b30)
 replace LB:=hZq (upQ LB.out b30)
 replace XS:=hZq (upQ XS.out b30)
 replace YS:=hZq (upQ YS.out b30)
 replace ZS:=hZq (upQ ZS.out b30)
 replace WS:=hZq (upQ WS.out b30)
 replace MS:=hZq (upQ MS.out b30)
 replace NS:=hZq (upQ NS.out b30)
 replace TV:=hZq (Tab.later TV.out b30)
 replace QX:=hZq (Chgs.later QX.out b30)
 replace TX:=hZq (Tab.later TX.out b30)
 replace QZ:=hZq (Chgs.later QZ.out b30)
 replace TZ:=hZq (Tab.later TZ.out b30)
 replace QW:=hZq (Chgs.later QW.out b30)
 replace TW:=hZq (Tab.later TW.out b30)
 replace HB:=hZq (below2Z HB.out b30)
 clear b30
 go_wp2_with fail
 refine (rpbound_v rl_c _).mono ?_
 rintro e w31 ⟨rfl,b31⟩
 replace GB:=hZq (upQ GB.out b31)
 replace LB:=hZq (upQ LB.out b31)
 replace XS:=hZq (upQ XS.out b31)
 replace YS:=hZq (upQ YS.out b31)
 replace ZS:=hZq (upQ ZS.out b31)
 replace WS:=hZq (upQ WS.out b31)
 replace MS:=hZq (upQ MS.out b31)
 replace NS:=hZq (upQ NS.out b31)
 replace TV:=hZq (Tab.later TV.out b31)
 replace QX:=hZq (Chgs.later QX.out b31)
 replace TX:=hZq (Tab.later TX.out b31)
 replace QZ:=hZq (Chgs.later QZ.out b31)
 replace TZ:=hZq (Tab.later TZ.out b31)
 replace QW:=hZq (Chgs.later QW.out b31)
 replace TW:=hZq (Tab.later TW.out b31)
 replace HB:=hZq (below2Z HB.out b31)
 clear b31
 go_wp2_with fail
 go_ret
 exact⟨rfl,HB.out⟩
end
end Go.Proofs.YtmpigdokghngiaaGreat
