/-
 TEXTS OF THE PROOF, one behind the other: DigWithout, DigIns, DigInsR, DigSet, Seq, Aid, QueRow, DigFrame, OpenS, QueFrame, PacPure, PacFrame, LnkFrame, RepFrame.
-/
import Derived.Test.YtmpigdokghngiaaGreatQ03
import Derived.Laws.Externs
import Derived.Test.YtmpigdokghngiaaGreatQ01
import Derived.Laws.IdiomCopy
import Derived.Laws.AppendOwnNone
import Derived.Lib.AppendZerosOnto
import Derived.Lib.Overlaps
import Derived.Deep.RegionLaw
import Derived.Lib.SliceRun
import Derived.Lib.Hide
import Derived.BigRegion
import Derived.Maps.OwnSet
import Derived.ProofKit
import Derived.OpenShut
import Derived.Lib.SmallJoins
import Derived.Deep.Slices
import Derived.Deep.Fields
import Derived.ChangeSame
import Derived.Test.YtmpigdokghngiaaGreatProg

set_option maxHeartbeats 12800000
set_option maxRecDepth 100000

namespace Go.Proofs.YtmpigdokghngiaaGreat
section
open Go.RowKit

theorem Tab.src {w:World} {ad:Addr} {n cap:Nat} {t:List Row} (h:Tab w (.slice (some ad) n cap) t):SrcR w ad t:=by
 obtain⟨a',cap',e,_,_,_,h⟩:=h
 simp only [Value.slice.injEq] at e
 intro j u hu
 have hj:=(List.getElem?_eq_some_iff.1 hu).1
 rw [cellsOf_len] at hj
 rcases h with h | ⟨b,off,e',_,hc⟩
 ·rw [h] at hj; simp at hj
 ·have e2:=e.1.trans e'
  injection e2 with e2
  subst e2
  have hd:j=j / 5 * 5+j % 5:=by omega
  rw [hd,cellsOf_at t (j / 5) (j % 5) (by omega) (by omega)] at hu
  have:=cells5_get (hc (j / 5) (by omega)) (j % 5) u hu
  rw [Addr.add_lit,hd,← Nat.add_assoc]
  exact this

theorem eql_nil_some (w:World) (x:Addr) (n c:Nat):(binOp .eql 31 (.slice (some x) n c) (.slice none 0 0)).run Tryz.prog w=.ok (.bool false) w:=by
 rw [Lib.run_eql_slice_nil w _ _ _ _ _ _ _ Tryz.underlying31]
 rfl

theorem eql_nil_nil (w:World) (n c:Nat):(binOp .eql 31 (.slice none n c) (.slice none 0 0)).run Tryz.prog w=.ok (.bool true) w:=by
 rw [Lib.run_eql_slice_nil w _ _ _ _ _ _ _ Tryz.underlying31]
 rfl

theorem clone_any {w:World} {v:Value} {t:List Row} (hv:Tab w v t) (hl:t.length≤4294967) :
  Calls Tryz.prog 148 #[v] w fun e w' => ∃ u,e=.returned u∧OwnR w' w.heap.size u t∧Below w.heap.size w w':=by
 have HV:=hZq hv
 obtain⟨a,cap,rfl,h1,h2,h3,h4⟩:=hv
 cases a with
 | none =>
  obtain rfl:cap=0:=h3 rfl
  obtain rfl:t=[]:=List.length_eq_zero_iff.1 (by omega)
  have heq:=fun w => eql_nil_nil w 0 0
  clear h4
  go_enter Tryz.func148,Tryz.ntmps148
  go_wp2_with fail
  go_ret
  exact⟨_,rfl,ownR_nil _ _,Below.refl _ _⟩
 | some x =>
  have HS:=hZq (HV.out.later ((Below.refl _ _).alloc (Nat.le_refl _) (.cells #[] 73))).src
  have heq:=fun w => eql_nil_some w x t.length cap
  clear h4 h3
  go_enter Tryz.func148,Tryz.ntmps148
  go_wp2_with (at_builtin; go_must (refine wpList_append_rows rfl _ _ rfl w.heap.size _ [] rfl (by exact ownR_made w) (some x) t.length cap t rfl rfl (fun e => nomatch e) ?c1 (by simp only [List.length_nil]; omega) (by simp) ?_))
  case c1 => intro ad had; obtain rfl:=Option.some.inj had; exact HS.out
  intro v' w' ho' hb'
  have O:=hZq ho'
  have hbB:Hid (Below w.heap.size w w'):=((Below.refl w.heap.size w).alloc (Nat.le_refl _) _).trans hb'
  clear ho' hb'
  go_wp2_with fail
  go_ret
  exact⟨_,rfl,by have:=O.out; simpa using this,hbB.out⟩

theorem deletef_any {w:World} {base:Nat} {v:Value} {t:List Row} (ho:OwnR w base v t) {B:Nat} {key:List UInt8} (hk:w.cell? ⟨B,0,none⟩=some (.string ⟨key.toArray⟩)) (hB:B < base) (hbase:base≤w.heap.size) :
  Calls Tryz.prog 176 #[v,.func (.func 177) #[] #[.pointer (some ⟨B,0,none⟩)]] w fun e w' => ∃ u,e=.returned u∧OwnR w' base u (diRest t key)∧Below base w w':=by
 rcases ho.2 with ⟨rfl,h0⟩ | ⟨g,cap,cur,rfl,_⟩
 ·obtain rfl:t=[]:=List.length_eq_zero_iff.1 h0
  have HI:=hZq (indexf_any ho.tab hk)
  clear ho hk h0
  go_enter Tryz.func176,Tryz.ntmps176
  go_wp2_with fail
  refine HI.out.mono ?_
  rintro e w1 ⟨m,rfl,hf,hb1⟩
  have B1:=hZq hb1
  clear hb1 HI
  rcases hf with ⟨k,hk,_⟩ | ⟨rfl,_⟩
  ·simp at hk
  ·go_wp2_with fail
   go_ret
   exact⟨_,rfl,ownR_nil _ _,B1.out.mono hbase⟩
 ·exact deletef_some ho hk hB hbase

theorem without_any {w:World} {v:Value} {t:List Row} (hv:Tab w v t) (hl:t.length≤4294967) (key:List UInt8) :
  Calls Tryz.prog 166 #[v,.string ⟨key.toArray⟩] w fun e w' => ∃ u,e=.returned u∧OwnR w' (w.heap.size+1) u (diRest t key)∧Below w.heap.size w w'∧w.heap.size < w'.heap.size:=by
 have HC:=hZq (clone_any (hv.later ((Below.refl _ _).alloc (Nat.le_refl _) (.cells #[.string ⟨key.toArray⟩] 9))) hl)
 obtain⟨a,cap,rfl,_⟩:=hv.open'
 clear hv
 go_enter Tryz.func166,Tryz.ntmps166
 go_wp2_with fail
 refine HC.out.mono ?_
 rintro e w1 ⟨u,rfl,ho1,hb1⟩
 have hk:w1.cell? ⟨w.heap.size,0,none⟩=some (.string ⟨key.toArray⟩):=cell_later (by simp) hb1
 have hsz:=hb1.size
 simp at hsz
 have ho2:OwnR w1 (w.heap.size+1) u t:=by simpa using ho1
 have HD:=hZq (deletef_any ho2 hk (Nat.lt_succ_self _) hsz)
 have B1:Hid (Below w.heap.size w w1):=below2' ((Below.refl _ _).alloc (Nat.le_refl _) _) hb1
 clear ho1 ho2 hb1 hk HC
 go_wp2_with fail
 refine HD.out.mono ?_
 rintro e w2 ⟨u2,rfl,ho3,hb3⟩
 have O3:=hZq ho3
 have B3:=hZq (B1.out.trans (hb3.mono (Nat.le_succ _)))
 have hz3:=hb3.size
 clear ho3 hb3
 go_wp2_with fail
 go_ret
 exact⟨_,rfl,O3.out,B3.out,by omega⟩
end
section
open Go.RowKit

def Lone (w:World) (B:Nat) (r:Row):Prop:=w.heap[B]?=some (.cells #[.string ⟨r.c.toArray⟩,.int .i64 r.v.sh,.int .i64 r.v.pr,.int .i64 r.v.si,.string ⟨r.v.st.toArray⟩] 73 (0,0))

theorem Lone.later {w w':World} {B:Nat} {r:Row} (h:Lone w B r) (hb:Below w.heap.size w w'):Lone w' B r :=
 (hb.block B (Array.getElem?_eq_some_iff.1 h).1).trans h

theorem Lone.lt {w:World} {B:Nat} {r:Row} (h:Lone w B r):B < w.heap.size:=(Array.getElem?_eq_some_iff.1 h).1

theorem Lone.src {w:World} {B:Nat} {r:Row} (h:Lone w B r):SrcR w ⟨B,0,none⟩ [r]:=by
 intro j u hu
 rw [cellsOf_one] at hu
 rw [Addr.add_lit,Nat.zero_add,cell_of_row w B j _ _ (0,0) h,← hu]
 simp [rowVals]

theorem Lone.free {w:World} {B:Nat} {r:Row} (h:Lone w B r) (j:Nat):w.frozen? ⟨B,j,none⟩=false:=frozen_of_row w B j _ _ h

theorem Lone.shape {w:World} {B:Nat} {r:Row} (h:Lone w B r):w.shape? B=some (73,5):=by
 have h':=h
 unfold Lone at h'
 simp only [World.shape?,h']
 rfl

theorem own_shape {w:World} {g:Nat} {cur:Array Value} {T:TypeId} (h:w.heap[g]?=some (.cells cur T (0,0))):w.shape? g=some (T,cur.size):=by
 simp only [World.shape?,h]

theorem lone_new (w:World) (r:Row):Lone (w.alloc (.cells #[.string ⟨r.c.toArray⟩,.int .i64 r.v.sh,.int .i64 r.v.pr,.int .i64 r.v.si,.string ⟨r.v.st.toArray⟩] 73)) w.heap.size r:=heap_alloc_new w _

def put1 (t:List Row) (i:Nat) (r:Row):List Row:=t.take i ++ ([r] ++ t.drop i)

theorem insert_end {w:World} {base:Nat} {v:Value} {t:List Row} (ho:OwnR w base v t) (hbase:base≤w.heap.size) (hl:t.length≤1000) {B:Nat} {r:Row} (hr:Lone w B r) :
  Calls Tryz.prog 167 #[v,.int .i64 t.length,.slice (some ⟨B,0,none⟩) 1 1] w fun e w' => ∃ u,e=.returned u∧OwnR w' base u (put1 t t.length r)∧Below base w w':=by
 have HO:=hZq ho
 have HS:=hZq hr.src
 have HE:Hid (put1 t t.length r=t ++ [r]):=by show _=_; simp [put1]
 have t0:((t.length:Int) == (t.length:Int))=true:=by simp
 rcases ho.2 with ⟨rfl,h0⟩ | ⟨g,cap,cur,rfl,_,_,hnc,hcm,_⟩
 ·obtain rfl:t=[]:=List.length_eq_zero_iff.1 h0
  clear ho hr h0
  go_enter Tryz.func167,Tryz.ntmps167
  go_wp2_with (at_builtin; go_must (refine wpList_append_rows rfl _ _ rfl base _ [] rfl (by exact HO.out) (some ⟨B,0,none⟩) 1 1 [r] rfl rfl (fun e => nomatch e) ?c1 (by simp) hbase ?_))
  case c1 => intro ad had; obtain rfl:=Option.some.inj had; exact HS.out
  intro v' w' ho' hb'
  have O:=hZq ho'
  have HB:=hZq hb'
  clear ho' hb'
  go_wp2_with fail
  go_ret
  exact⟨_,rfl,O.out,HB.out⟩
 ·unfold maxLen at hcm
  clear ho hr
  by_cases hc:cap=t.length
  ·subst hc
   go_enter Tryz.func167,Tryz.ntmps167
   go_wp2_with (at_builtin; go_must (refine wpList_append_rows rfl _ _ rfl base _ t rfl (by exact HO.out) (some ⟨B,0,none⟩) 1 1 [r] rfl rfl (fun e => nomatch e) ?c1 (by simp only [List.length_cons,List.length_nil]; omega) hbase ?_))
   case c1 => intro ad had; obtain rfl:=Option.some.inj had; exact HS.out
   intro v' w' ho' hb'
   have O:=hZq ho'
   have HB:=hZq hb'
   clear ho' hb'
   go_wp2_with fail
   go_ret
   exact⟨_,rfl,by rw [HE.out]; exact O.out,HB.out⟩
  ·go_enter Tryz.func167,Tryz.ntmps167
   go_wp2_with (at_builtin; go_must (refine wpList_append_rows rfl _ _ rfl base _ t rfl (by exact HO.out) (some ⟨B,0,none⟩) 1 1 [r] rfl rfl (fun e => nomatch e) ?c1 (by simp only [List.length_cons,List.length_nil]; omega) hbase ?_))
   case c1 => intro ad had; obtain rfl:=Option.some.inj had; exact HS.out
   intro v' w' ho' hb'
   have O:=hZq ho'
   have HB:=hZq hb'
   clear ho' hb'
   go_wp2_with fail
   go_ret
   exact⟨_,rfl,by rw [HE.out]; exact O.out,HB.out⟩

theorem ownR_low {w:World} {base base':Nat} {v:Value} {t:List Row} (h:OwnR w base v t) (hb:base'≤base):OwnR w base' v t:=by
 refine ⟨h.1,?_⟩
 rcases h.2 with h' | ⟨g,cap,cur,h1,h2,h3⟩
 ·exact .inl h'
 ·exact .inr ⟨g,cap,cur,h1,by omega,h3⟩

theorem lay_grow {t:List Row} {i:Nat} (hi:i < t.length) (r:Row) :
  lay (lay (t.take i ++ List.replicate (t.length+1 - i) Row.zero) i [r]) (i+1) (t.drop i)=put1 t i r:=by
 have h1:(t.take i).length=i:=by rw [List.length_take]; omega
 have e2:(t.take i ++ List.replicate (t.length+1 - i) Row.zero).drop (i+1)=List.replicate (t.length - i) Row.zero:=by
  rw [List.drop_append,List.drop_of_length_le (by omega),h1,show i+1 - i=1 by omega,List.drop_replicate,List.nil_append]
  congr 1
  omega
 have e3:lay (t.take i ++ List.replicate (t.length+1 - i) Row.zero) i [r]=(t.take i ++ [r]) ++ List.replicate (t.length - i) Row.zero:=by
  unfold lay
  rw [List.take_left' h1,List.length_singleton,e2]
  simp
 have h4:(t.take i ++ [r]).length=i+1:=by rw [List.length_append,h1]; rfl
 have h5:((t.take i ++ [r]) ++ List.replicate (t.length - i) Row.zero).length≤i+1+(t.drop i).length:=by
  rw [List.length_append,h4,List.length_replicate,List.length_drop]
  omega
 rw [e3]
 unfold lay put1
 rw [List.take_left' h4,List.drop_of_length_le h5]
 simp

theorem insert_grow {w:World} {base g cap:Nat} {t:List Row} (ho:OwnR w base (.slice (some ⟨g,0,none⟩) t.length cap) t) (hbase:base≤w.heap.size) (hl:t.length≤1000) {i:Nat} (hi:i < t.length) (hc:cap=t.length) {B:Nat} {r:Row} (hr:Lone w B r) :
  Calls Tryz.prog 167 #[.slice (some ⟨g,0,none⟩) t.length cap,.int .i64 i,.slice (some ⟨B,0,none⟩) 1 1] w fun e w' => ∃ u,e=.returned u∧OwnR w' base u (put1 t i r)∧Below base w w':=by
 subst hc
 have HO:=hZq ho
 have HR:=hZq hr
 have HE:=hZq (lay_grow hi r)
 have t0:((i:Int) == (t.length:Int))=false:=by simp; omega
 have t1:¬ t.length=i:=by omega
 have hw1:IntKind.i64.wrap ((i:Int)+1)=(i:Int)+1:=IntWalk.i64_in _ (by omega)
 have htn:((i:Int)+1).toNat=i+1:=by omega
 have hb0:(0:Int)≤(i:Int)+1:=by omega
 have hin:i≤t.length:=by omega
 have hgw:=ho.head.2.2.1
 have hBw:=hr.lt
 clear ho hr
 go_enter Tryz.func167,Tryz.ntmps167
 go_wp2_with (with_reducible refine wpList_append_zero_rows rfl (.tmp 34) (.tmp 39) rfl base g t.length t.length t HO.out i (t.length+1 - i) (t.length+1) ((t.length:Int)+1 - (i:Int)) rfl rfl (by omega) (by omega) (by omega) (by omega) (by omega) (by omega) ?_)
 intro w1 G h1 hG hGm hb1
 have O1:=hZq h1
 have B1:=hZq hb1
 have S1:=hZq (HR.out.later hb1).src
 have P1:=hZq (HO.out.later hb1)
 have hsz:=hb1.size
 have hlen:(t.take i ++ List.replicate (t.length+1 - i) Row.zero).length=t.length+1:=by rw [List.length_append,List.length_take,List.length_replicate]; omega
 have t2:¬ G=i:=by omega
 have t3:¬ G=i+1:=by omega
 clear h1 hb1
 go_wp2_with (with_reducible refine wpList_copy_rows rfl (.tmp 43) (.tmp 44) rfl w.heap.size w.heap.size (t.length+1) G _ O1.out i (t.length+1 - i) (G - i) ⟨B,0,none⟩ 1 1 rfl rfl [r] (by simp only [List.length_singleton,Nat.min_def]; split <;> omega) S1.out (by rw [hlen]; simp only [List.length_singleton]; omega) ?_)
 intro w2 h2 hb2 hk2
 have O2:=hZq h2
 have B2:=hZq (B1.out.trans (hb2.mono (Nat.le_refl _)))
 have P2:Hid (SrcR w2.drew ⟨g,i * 5,none⟩ (t.drop i)):=by
  show SrcR _ _ _
  intro j x hx
  have:=P1.out.src i (t.length - i) (by omega) j x (by rw [List.take_of_length_le (by rw [List.length_drop]; omega)]; exact hx)
  exact (hk2 _ (by rw [Addr.add_lit]; show g ≠ w.heap.size; omega)).trans this
 have hlen2:(lay (t.take i ++ List.replicate (t.length+1 - i) Row.zero) i [r]).length=t.length+1:=by rw [lay_len (by rw [hlen]; simp only [List.length_singleton]; omega),hlen]
 clear h2 hb2 hk2 O1 B1 S1
 go_wp2_with fail
 go_region_law (refine step_copy_rows rfl (.tmp 50) (.tmp 53) rfl w.heap.size w.heap.size (t.length+1) G _ (World.ownsRow.drew O2.out) (i+1) (t.length - i) (G - (i+1)) ⟨g,i * 5,none⟩ (t.length - i) (t.length - i) (by simp [Act.eval,Act.put]) (by simp [Act.eval,Act.put]) (t.drop i) (by simp only [List.length_drop,Nat.min_def]; split <;> omega) P2.out (by rw [hlen2,List.length_drop]; omega) ?_; intro w3 h3 hb3 hk3)
 all_goals
  have O3:=hZq h3
  have B3:=hZq ((B2.out.mono hbase).drew.trans (hb3.mono hbase))
  clear h3 hb3 hk3
  go_wp2_with fail
  go_ret
  refine ⟨_,rfl,?_,B3.out⟩
  have h:=O3.out
  rw [HE.out] at h
  exact ownR_low h hbase
end
section
open Go.RowKit

theorem Tryz.sizeSeen (w:World):(Go.sizeOf 73).run Tryz.prog w=.ok 5 w:=by
 obtain⟨i,hi,hz,hsize,hby⟩:=info_parts Tryz.infoSeen
 simp [sizeOf,typeInfo,hi,hsize]

def OwnC5 (w:World) (base g n cap:Nat) (xs:List Value):Prop:=w.ownsRow base 73 5 (.slice (some ⟨g,0,none⟩) n cap) n xs

theorem OwnC5.head {w:World} {base g n cap:Nat} {xs:List Value} (h:OwnC5 w base g n cap xs):base≤g∧xs.length=n * 5∧∃ cur:Array Value,w.heap[g]?=some (.cells cur 73 (0,0))∧cur.size=cap * 5:=by
 rcases h with ⟨h0,⟨h',_⟩ | ⟨g',cap',cur,h',hb,hg,hnc,hcm,hcs,_⟩⟩
 ·simp at h'
 ·simp only [Value.slice.injEq,Option.some.injEq,Addr.mk.injEq,and_true,true_and] at h'
  obtain⟨rfl,rfl⟩:=h'
  exact⟨hb,h0,cur,hg,hcs⟩

theorem OwnC5.someAt {w:World} {base g n cap:Nat} {xs:List Value} (h:OwnC5 w base g n cap xs) (j:Nat) (hj:j < n * 5):(w.cell? ⟨g,j,none⟩).isSome=true:=by
 rw [World.ownsRow.cellAt h j hj,List.getElem?_eq_getElem (by rw [h.head.2.1]; exact hj)]
 rfl

theorem run_copy_raw {w:World} (base g n cap:Nat) (xs:List Value) (h:OwnC5 w base g n cap xs) (o dl dc:Nat) (ad:Addr) (sl sc:Nat) (ms:List Row) (hn:ms.length=Nat.min sl dl) (hsrc:SrcR w ad ms) (ho:o+ms.length≤n) (ty:TypeId) :
  (Builtin.copy_ #[31,31] ty #[.slice (some ⟨g,o * 5,none⟩) dl dc,.slice (some ad) sl sc]).run Tryz.prog w=.ok (goInt ms.length) (w.setCells g (o * 5) (cellsOf ms)):=by
 obtain⟨i,hi,hz,hsize,hby⟩:=info_parts Tryz.infoSeen
 have hl:=run_loadCells_list (P:=Tryz.prog) w ad (cellsOf ms) hsrc
 rw [cellsOf_len] at hl
 have hst:=run_storeCells_cells (P:=Tryz.prog) g (o * 5) (cellsOf ms) 0 w (fun j hj => by
  rw [cellsOf_len] at hj
  exact h.someAt _ (by omega)) (fun j _ => World.ownsRow.frozenAt h _) (cellsOf_single ms)
 rw [Nat.add_zero] at hst
 simp [Builtin.copy_,run_underlying Tryz.underlying31,Builtin.lenOf,Builtin.firstCells,sizeOf,typeInfo,hi,hsize,← hn,hl,hst]

theorem wp_copy_raw {w:World} {o:Oper} {a:Act} {K:Act→World→Prop} {Q:Exit→Act→World→Prop} (d s:Operand)
  (ho:o.op=.call { callee:=.builtin .copy,args:=#[d,s],argTypes:=#[31,31] })
  (base g n cap:Nat) (xs:List Value) (h:OwnC5 w base g n cap xs) (p dl dc:Nat) (ad:Addr) (sl sc:Nat)
  (hd:a.eval d=.slice (some ⟨g,p * 5,none⟩) dl dc) (hs:a.eval s=.slice (some ad) sl sc) (ms:List Row) (hn:ms.length=Nat.min sl dl) (hsrc:SrcR w ad ms) (hp:p+ms.length≤n)
  (hK:∀ w',OwnC5 w' base g n cap (lay xs (p * 5) (cellsOf ms))→Below g w w'→(∀ x:Addr,x.block ≠ g→w'.cell? x=w.cell? x)→K (a.put o.dst (goInt ms.length)) w'):o.wp Tryz.prog a w K Q:=by
 have hr:=run_copy_raw base g n cap xs h p dl dc ad sl sc ms hn hsrc hp o.type
 unfold Oper.wp execOp
 simp only [ho,resolve,invoke,builtin,Sem.run_bind,Sem.run_pure,Result.andThen_ok,List.map_toArray,List.map_cons,List.map_nil,hd,hs,hr]
 refine hK _ (own_setCells _ _ _ _ h (by rw [cellsOf_len,h.head.2.1,← Nat.add_mul]; exact Nat.mul_le_mul_right _ hp)) (below_setCells (Nat.le_refl _) _ _ _ (Below.refl _ _)) (fun x hx => ?_)
 exact World.cell?_setCells_out g _ _ _ _ (fun hb _ => absurd hb hx)

theorem wpList_copy_raw {w:World} {ops:Array Oper} {rest:List Oper} {o:Oper} {a:Act} {Q:Exit→Act→World→Prop} (hgd:o.guard=none) (d s:Operand)
  (ho:o.op=.call { callee:=.builtin .copy,args:=#[d,s],argTypes:=#[31,31] })
  (base g n cap:Nat) (xs:List Value) (h:OwnC5 w base g n cap xs) (p dl dc:Nat) (ad:Addr) (sl sc:Nat)
  (hd:a.eval d=.slice (some ⟨g,p * 5,none⟩) dl dc) (hs:a.eval s=.slice (some ad) sl sc) (ms:List Row) (hn:ms.length=Nat.min sl dl) (hsrc:SrcR w ad ms) (hp:p+ms.length≤n)
  (hK:∀ w',OwnC5 w' base g n cap (lay xs (p * 5) (cellsOf ms))→Below g w w'→(∀ x:Addr,x.block ≠ g→w'.cell? x=w.cell? x)→wpList Tryz.prog ops Q rest (a.put o.dst (goInt ms.length)) w'):wpList Tryz.prog ops Q (o :: rest) a w :=
 wpList_plain hgd fun _ hK' => wp_copy_raw d s ho base g n cap xs h p dl dc ad sl sc hd hs ms hn hsrc hp fun w' h1 h2 h3 => hK' _ _ (hK w' h1 h2 h3)

theorem step_copy_raw {w:World} {ops:Array Oper} {o:Oper} {a:Act} {K:Act→World→Prop} {Q:Exit→Act→World→Prop} {E:Prop} (hgd:o.guard=none) (d s:Operand)
  (ho:o.op=.call { callee:=.builtin .copy,args:=#[d,s],argTypes:=#[31,31] })
  (base g n cap:Nat) (xs:List Value) (h:OwnC5 w base g n cap xs) (p dl dc:Nat) (ad:Addr) (sl sc:Nat)
  (hd:a.eval d=.slice (some ⟨g,p * 5,none⟩) dl dc) (hs:a.eval s=.slice (some ad) sl sc) (ms:List Row) (hn:ms.length=Nat.min sl dl) (hsrc:SrcR w ad ms) (hp:p+ms.length≤n)
  (hK:∀ w',OwnC5 w' base g n cap (lay xs (p * 5) (cellsOf ms))→Below g w w'→(∀ x:Addr,x.block ≠ g→w'.cell? x=w.cell? x)→K (a.put o.dst (goInt ms.length)) w') :
  if Region.wanted o (yielded ops a.tmps)=true then Oper.wp Tryz.prog o a w K Q else E:=by
 have hw:Region.wanted o (yielded ops a.tmps)=true:=by simp [Region.wanted,hgd]
 rw [if_pos hw]
 exact wp_copy_raw d s ho base g n cap xs h p dl dc ad sl sc hd hs ms hn hsrc hp hK

theorem OwnC5.drew {w:World} {base g n cap:Nat} {xs:List Value} (h:OwnC5 w base g n cap xs):OwnC5 w.drew base g n cap xs:=World.ownsRow.drew h

theorem own_wider {w:World} {base g cap:Nat} {t:List Row} (h:OwnR w base (.slice (some ⟨g,0,none⟩) t.length cap) t) (hc:t.length < cap):∃ z:List Value,z.length=5∧OwnC5 w base g (t.length+1) cap (cellsOf t ++ z):=by
 rcases h with ⟨h0,⟨h',_⟩ | ⟨g',cap',cur,h',hb,hg,hnc,hcm,hcs,htk⟩⟩
 ·simp at h'
 ·simp only [Value.slice.injEq,Option.some.injEq,Addr.mk.injEq,and_true,true_and] at h'
  obtain⟨rfl,rfl⟩:=h'
  have hlen:cur.toList.length=cap * 5:=by rw [Array.length_toList]; exact hcs
  have e:cur.toList.take ((t.length+1) * 5)=cellsOf t ++ (cur.toList.drop (t.length * 5)).take 5:=by
   rw [← htk,show (t.length+1) * 5=t.length * 5+5 by omega,List.take_add]
  refine ⟨(cur.toList.drop (t.length * 5)).take 5,by rw [List.length_take,List.length_drop,hlen]; omega,?_,.inr ⟨g,cap,cur,rfl,hb,hg,by omega,hcm,hcs,e⟩⟩
  rw [← e,List.length_take,hlen]
  omega

theorem lay_room {t:List Row} {i:Nat} (hi:i < t.length) (r:Row) (z:List Value) (hz:z.length=5) :
  lay (lay (cellsOf t ++ z) ((i+1) * 5) (cellsOf (t.drop i))) (i * 5) (cellsOf [r])=cellsOf (put1 t i r):=by
 have e1:(cellsOf t ++ z).drop ((i+1) * 5+(cellsOf (t.drop i)).length)=[]:=by
  apply List.drop_of_length_le
  rw [List.length_append,cellsOf_len,cellsOf_len,List.length_drop,hz]
  omega
 have e2:lay (cellsOf t ++ z) ((i+1) * 5) (cellsOf (t.drop i))=(cellsOf t ++ z).take ((i+1) * 5) ++ cellsOf (t.drop i):=by
  unfold lay
  rw [e1,List.append_nil]
 have hl:((cellsOf t ++ z).take ((i+1) * 5)).length=(i+1) * 5:=by
  rw [List.length_take,List.length_append,cellsOf_len,hz]
  omega
 have e3:((cellsOf t ++ z).take ((i+1) * 5)).take (i * 5)=cellsOf (t.take i):=by
  rw [List.take_take,show min (i * 5) ((i+1) * 5)=i * 5 by omega,List.take_append_of_le_length (by rw [cellsOf_len]; omega),cellsOf_take]
 rw [e2]
 unfold lay put1
 rw [List.take_append_of_le_length (by rw [hl]; omega),e3,List.drop_left' (by rw [hl,cellsOf_len]; simp only [List.length_singleton]; omega)]
 rw [cellsOf_append,cellsOf_append]

theorem put1_len (t:List Row) (i:Nat) (r:Row):(put1 t i r).length=t.length+1:=by
 unfold put1
 rw [List.length_append,List.length_append,List.length_singleton,List.length_take,List.length_drop]
 omega

theorem OwnC5.rows {w:World} {base g cap n:Nat} {t:List Row} (h:OwnC5 w base g n cap (cellsOf t)) (hn:n=t.length):OwnR w base (.slice (some ⟨g,0,none⟩) n cap) t:=by
 subst hn
 exact h

theorem insert_room {w:World} {base g cap:Nat} {t:List Row} (ho:OwnR w base (.slice (some ⟨g,0,none⟩) t.length cap) t) (hl:t.length≤1000) {i:Nat} (hi:i < t.length) (hc:t.length < cap) (hcm:cap≤9223372036854775807) {B:Nat} {r:Row} (hr:Lone w B r) (hne:B ≠ g) :
  Calls Tryz.prog 167 #[.slice (some ⟨g,0,none⟩) t.length cap,.int .i64 i,.slice (some ⟨B,0,none⟩) 1 1] w fun e w' => ∃ u,e=.returned u∧OwnR w' base u (put1 t i r)∧Below base w w':=by
 obtain⟨z,hz,hw⟩:=own_wider ho hc
 have HO:=hZq hw
 have HS:=hZq hr.src
 have hin2:(i:Int)≤(t.length:Int)+1:=by omega
 have S0:Hid (SrcR w.drew ⟨g,i * 5,none⟩ (t.drop i)):=by
  show SrcR _ _ _
  intro j x hx
  exact ho.src i (t.length - i) (by omega) j x (by rw [List.take_of_length_le (by rw [List.length_drop]; omega)]; exact hx)
 have HE:=hZq (lay_room hi r z hz)
 have HG:=hZq ho.head.2.1
 have t0:((i:Int) == (t.length:Int))=false:=by simp; omega
 have t1:¬ cap=i:=by omega
 have t2:¬ cap=i+1:=by omega
 have hw1:IntKind.i64.wrap ((i:Int)+1)=(i:Int)+1:=IntWalk.i64_in _ (by omega)
 have htn:((i:Int)+1).toNat=i+1:=by omega
 have hb0:(0:Int)≤(i:Int)+1:=by omega
 have hin:i≤t.length:=by omega
 have hov:∀ lb cb,(callFunc 178 #[.slice (some ⟨B,0,none⟩) 1 1,.slice (some ⟨g,(i+1) * 5,none⟩) lb cb]).run Tryz.prog w=.ok (.value (.bool false)) w:=fun lb cb => by
  obtain⟨_,_,cur,hg,hcs⟩:=hw.head
  rw [run_callFunc_extern Tryz.func178 (by kernel_rfl) (by kernel_rfl) (by kernel_rfl) (e:=Extern.SlicesOverlaps.overlaps #[31,31] #[4]) (by kernel_rfl),
   Lib.run_overlaps_apart w 31 4 73 Tryz.underlying31 5 Tryz.sizeSeen ⟨B,0,none⟩ ⟨g,(i+1) * 5,none⟩ 1 1 lb cb hne _ _ _ _ hr.shape (own_shape hg) (by omega) (hr.free _) (hr.free _)]
  rfl
 clear ho hr hw
 go_enter Tryz.func167,Tryz.ntmps167
 go_wp2_with (simp only [hov])
 go_region_law (refine step_copy_raw rfl (.tmp 73) (.tmp 76) rfl base g (t.length+1) cap _ HO.out.drew (i+1) (t.length - i) (cap - (i+1)) ⟨g,i * 5,none⟩ (t.length+1 - i) (cap - i) (by simp [Act.eval,Act.put]) (by simp [Act.eval,Act.put]) (t.drop i) (by simp only [List.length_drop,Nat.min_def]; split <;> omega) S0.out (by rw [List.length_drop]; omega) ?_; intro w1 h1 hb1 hk1)
 all_goals
  have O1:=hZq h1
  have B1:=hZq ((Below.refl base w).drew.trans (hb1.mono HG.out))
  have S1:Hid (SrcR w1 ⟨B,0,none⟩ [r]):=by
   show SrcR _ _ _
   intro j x hx
   exact (hk1 _ (by rw [Addr.add_lit]; exact hne)).trans (HS.out j x hx)
  clear h1 hb1 hk1
  go_wp2_with (with_reducible refine wpList_copy_raw rfl (.tmp 80) (.tmp 81) rfl base g (t.length+1) cap _ O1.out i (t.length+1 - i) (cap - i) ⟨B,0,none⟩ 1 1 rfl rfl [r] (by simp only [List.length_singleton,Nat.min_def]; split <;> omega) S1.out (by simp only [List.length_singleton]; omega) ?_)
  intro w2 h2 hb2 hk2
  rw [HE.out] at h2
  have O2:=hZq (h2.rows (put1_len t i r).symm)
  have B2:=hZq (B1.out.trans (hb2.mono HG.out))
  clear h2 hb2 hk2
  go_wp2_with fail
  go_ret
  exact⟨_,rfl,O2.out,B2.out⟩
end
section
open Go.RowKit

theorem OwnR.drew {w:World} {base:Nat} {v:Value} {t:List Row} (h:OwnR w base v t):OwnR w.drew base v t:=World.ownsRow.drew h

theorem own_apart {w:World} {base B:Nat} {v:Value} {t:List Row} (h:OwnR w base v t) (hB:w.heap.size≤B):∀ g n c,v=.slice (some ⟨g,0,none⟩) n c→B ≠ g:=by
 intro g n c e
 subst e
 have:=h.head.2.2.1
 omega

theorem insert_any {w:World} {base:Nat} {v:Value} {t:List Row} (ho:OwnR w base v t) (hbase:base≤w.heap.size) (hl:t.length≤1000) {i:Nat} (hi:i≤t.length) {B:Nat} {r:Row} (hr:Lone w B r) (hne:∀ g n c,v=.slice (some ⟨g,0,none⟩) n c→B ≠ g) :
  Calls Tryz.prog 167 #[v,.int .i64 i,.slice (some ⟨B,0,none⟩) 1 1] w fun e w' => ∃ u,e=.returned u∧OwnR w' base u (put1 t i r)∧Below base w w':=by
 by_cases h:i=t.length
 ·subst h
  exact insert_end ho hbase hl hr
 ·have hi':i < t.length:=by omega
  rcases ho.2 with ⟨rfl,h0⟩ | ⟨g,cap,cur,rfl,_,_,hnc,hcm,_⟩
  ·omega
  ·by_cases hc:cap=t.length
   ·exact insert_grow ho hbase hl hi' hc hr
   ·unfold maxLen at hcm
    exact insert_room ho hl hi' (by omega) (by omega) hr (hne _ _ _ rfl)

def chgAgg (c:Chg):Value:=.agg #[.string ⟨c.c.toArray⟩,.bool c.on,.int .i64 c.v.sh,.int .i64 c.v.pr,.int .i64 c.v.si,.string ⟨c.v.st.toArray⟩]

theorem six_cells (w:World) (a b c d e f:Value) (t:TypeId):(w.alloc (.cells #[a,b,c,d,e,f] t)).cell? ⟨w.heap.size,0,none⟩=some a∧(w.alloc (.cells #[a,b,c,d,e,f] t)).cell? ⟨w.heap.size,1,none⟩=some b∧(w.alloc (.cells #[a,b,c,d,e,f] t)).cell? ⟨w.heap.size,2,none⟩=some c∧(w.alloc (.cells #[a,b,c,d,e,f] t)).cell? ⟨w.heap.size,3,none⟩=some d∧(w.alloc (.cells #[a,b,c,d,e,f] t)).cell? ⟨w.heap.size,4,none⟩=some e∧(w.alloc (.cells #[a,b,c,d,e,f] t)).cell? ⟨w.heap.size,5,none⟩=some f :=
 ⟨by rw [World.cell?_alloc_at _ _ _ _ rfl]; rfl,by rw [World.cell?_alloc_at _ _ _ _ rfl]; rfl,by rw [World.cell?_alloc_at _ _ _ _ rfl]; rfl,by rw [World.cell?_alloc_at _ _ _ _ rfl]; rfl,by rw [World.cell?_alloc_at _ _ _ _ rfl]; rfl,by rw [World.cell?_alloc_at _ _ _ _ rfl]; rfl⟩

theorem keep5b {w w':World} {B C:Nat} {a b c d e:Value} (hb:Below B w w') (hC:C < B)
  (h:w.cell? ⟨C,0,none⟩=some a∧w.cell? ⟨C,2,none⟩=some b∧w.cell? ⟨C,3,none⟩=some c∧w.cell? ⟨C,4,none⟩=some d∧w.cell? ⟨C,5,none⟩=some e) :
  w'.cell? ⟨C,0,none⟩=some a∧w'.cell? ⟨C,2,none⟩=some b∧w'.cell? ⟨C,3,none⟩=some c∧w'.cell? ⟨C,4,none⟩=some d∧w'.cell? ⟨C,5,none⟩=some e :=
 ⟨(hb.cell (p:=⟨C,0,none⟩) hC).trans h.1,(hb.cell (p:=⟨C,2,none⟩) hC).trans h.2.1,(hb.cell (p:=⟨C,3,none⟩) hC).trans h.2.2.1,(hb.cell (p:=⟨C,4,none⟩) hC).trans h.2.2.2.1,(hb.cell (p:=⟨C,5,none⟩) hC).trans h.2.2.2.2⟩

theorem diSet_off {t:List Row} {c:Chg} (h:c.on=false):diSet t c=diRest t c.c:=by unfold diSet; rw [if_neg (by rw [h]; decide)]
theorem diSet_on {t:List Row} {c:Chg} (h:c.on=true):diSet t c=put1 (diRest t c.c) (diPlace (diRest t c.c) c.c) ⟨c.c,c.v⟩:=by unfold diSet; rw [if_pos h]; rfl

theorem diRest_len (t:List Row) (x:List UInt8):(diRest t x).length≤t.length:=by unfold diRest; exact List.length_filter_le _ _

set_option maxRecDepth 1000000 in
theorem set_any {w:World} {v:Value} {t:List Row} (hv:Tab w v t) (hl:t.length≤1000) (c:Chg) :
  Calls Tryz.prog 152 #[v,chgAgg c] w fun e w' => ∃ u,e=.returned u∧OwnR w' w.heap.size u (diSet t c)∧Below w.heap.size w w':=by
 obtain⟨x,on,sh,pr,si,st⟩:=c
 have HW:=hZq (without_any (hv.later ((Below.refl _ _).alloc (Nat.le_refl _) (.cells #[.string ⟨x.toArray⟩,.bool on,.int .i64 sh,.int .i64 pr,.int .i64 si,.string ⟨st.toArray⟩] 105))) (by omega) x)
 have hrl:=diRest_len t x
 obtain⟨a,cap,rfl,_⟩:=hv.open'
 unfold chgAgg
 obtain⟨k0,k1,k2,k3,k4,k5⟩:=six_cells w (.string ⟨x.toArray⟩) (.bool on) (.int .i64 sh) (.int .i64 pr) (.int .i64 si) (.string ⟨st.toArray⟩) 105
 have K0:=hZq k0
 have K1:=hZq k1
 have K2:=hZq k2
 have K3:=hZq k3
 have K4:=hZq k4
 have K5:=hZq k5
 clear hv k0 k1 k2 k3 k4 k5
 go_enter Tryz.func152,Tryz.ntmps152
 go_wp2_with fail
 refine HW.out.mono ?_
 rintro e w1 ⟨u,rfl,ho1,hb1,hz1⟩
 have k0:=cell_later K0.out hb1
 have k1:=cell_later K1.out hb1
 have k2:=cell_later K2.out hb1
 have k3:=cell_later K3.out hb1
 have k4:=cell_later K4.out hb1
 have k5:=cell_later K5.out hb1
 have hsz:w.heap.size+1 < w1.heap.size:=by simpa using hz1
 have B1:Hid (Below w.heap.size w w1):=below2' ((Below.refl _ _).alloc (Nat.le_refl _) _) hb1
 have O1:Hid (OwnR w1 (w.heap.size+1) u (diRest t x)):=ownR_low ho1 (by simp)
 clear HW K0 K1 K2 K3 K4 K5 hb1 ho1 hz1
 cases on with
 | false =>
  have HE:=hZq (diSet_off (t:=t) (c:=⟨x,false,⟨sh,pr,si,st⟩⟩) rfl)
  go_wp2_with fail
  go_ret
  exact⟨_,rfl,by rw [HE.out]; exact ownR_low O1.out (Nat.le_succ _),B1.out⟩
 | true =>
  have HE:=hZq (diSet_on (t:=t) (c:=⟨x,true,⟨sh,pr,si,st⟩⟩) rfl)
  have hpl:diPlace (diRest t x) x≤(diRest t x).length:=plc_le _ _ _
  go_wp2_with fail
  go_region_held (fun W => W.cell? ⟨w.heap.size,0,none⟩=some (.string ⟨x.toArray⟩)∧W.cell? ⟨w.heap.size,2,none⟩=some (.int .i64 sh)∧W.cell? ⟨w.heap.size,3,none⟩=some (.int .i64 pr)∧W.cell? ⟨w.heap.size,4,none⟩=some (.int .i64 si)∧W.cell? ⟨w.heap.size,5,none⟩=some (.string ⟨st.toArray⟩))
   (first | (with_reducible exact keep5b (by assumption) (Nat.lt_succ_self _) (by assumption)) | go_keep)
   ((first
    | (go_at_call 168; go_loud (refine (diplace_any (v:=u) (t:=diRest t x) (by first | exact O1.out.drew.tab | exact (O1.out.drew.alloc _).tab) x).mono ?_; rintro e w2 ⟨rfl,hb2⟩; (have O2:Hid (OwnR w2 (w.heap.size+1) u (diRest t x)):=hZq (by first | exact O1.out.drew.later hb2 | exact (O1.out.drew.alloc _).later hb2)); (have hs2:w.heap.size+1 < w2.heap.size:=by (have:=hb2.size; first | exact Nat.lt_of_lt_of_le hsz this | (simp at this; omega))); (try (refine mpr2 (p:=Lone w2 w1.heap.size ⟨x,⟨sh,pr,si,st⟩⟩) ?_ ?_; (· exact (lone_new w1.drew ⟨x,⟨sh,pr,si,st⟩⟩).later hb2); intro hL2; (have L2:=hZq hL2); clear hL2)); (have B2:Hid (Below w.heap.size w w2):=hZq (by first | exact below2' B1.out.drew hb2 | exact below2' (bl_alloc B1.out.drew _) hb2)); (have hS2:Below (w.heap.size+1) _ w2:=hb2.mono (by first | exact Nat.le_of_lt hsz | (simp; omega))); clear hb2))
    | (go_at_call 167; go_loud (refine (insert_any (base:=w.heap.size+1) (t:=diRest t x) (i:=diPlace (diRest t x) x) (r:=⟨x,⟨sh,pr,si,st⟩⟩) (by first | exact O2.out | exact O2.out.alloc _) (by first | exact Nat.le_of_lt hs2 | (simp; omega)) (by omega) hpl (by first | exact L2.out | exact lone_new w2 ⟨x,⟨sh,pr,si,st⟩⟩) (by first | exact own_apart O1.out (Nat.le_refl _) | exact own_apart (w:=w2) O2.out (Nat.le_refl _) | exact own_apart (O2.out.alloc _) (by simp))).mono ?_; rintro e w3 ⟨u3,rfl,ho3,hb3⟩; (have O3:=hZq ho3); (have B3:Hid (Below w.heap.size w w3):=hZq (by first | exact B2.out.trans (hb3.mono (Nat.le_succ _)) | exact (bl_alloc B2.out _).trans (hb3.mono (Nat.le_succ _)))); clear ho3))))
  all_goals
   go_wp2_with fail
   go_ret
   exact⟨_,rfl,by rw [HE.out]; exact ownR_low O3.out (Nat.le_succ _),B3.out⟩
end
section
open Go.RowKit

def cellsS {α:Type} (vals:α→List Value) (t:List α):List Value:=(t.map vals).flatten

structure RowOK {α:Type} (P:Program) (vals:α→List Value) (sz:Nat) (zero:α) (T S:TypeId) (Z:Value) (bytes:Nat):Prop where
 len:∀ a,(vals a).length=sz
 one:∀ a,∀ u ∈ vals a,u.oneCell'=true
 pos:0 < sz
 small:sz≤100
 under:P.underlying S=some (.slice T)
 info:(P.info? T).map (fun i => (i.zero,i.size,i.bytes))=some (some Z,sz,bytes)
 zvals:Z.cells.toList=vals zero
 fits:bytes≤4096

section pure
variable {α:Type} {vals:α→List Value} {sz:Nat}

theorem cellsS_nil:cellsS vals []=[]:=rfl
theorem cellsS_cons (r:α) (t:List α):cellsS vals (r :: t)=vals r ++ cellsS vals t:=rfl
theorem cellsS_append (a b:List α):cellsS vals (a ++ b)=cellsS vals a ++ cellsS vals b:=by simp [cellsS]
theorem cellsS_one (r:α):cellsS vals [r]=vals r:=by simp [cellsS]

theorem cellsS_len (hl:∀ a,(vals a).length=sz):∀ t:List α,(cellsS vals t).length=t.length * sz
 | [] => by simp [cellsS]
 | r :: t => by rw [cellsS_cons,List.length_append,hl,cellsS_len hl t,List.length_cons,Nat.add_mul,Nat.one_mul,Nat.add_comm]

theorem cellsS_at (hl:∀ a,(vals a).length=sz) (zero:α):∀ (t:List α) (i j:Nat),i < t.length→j < sz→(cellsS vals t)[i * sz+j]?=(vals (t.getD i zero))[j]?
 | [],i,j,h,_ => by simp at h
 | r :: t,0,j,_,hj => by
  rw [cellsS_cons,Nat.zero_mul,Nat.zero_add,List.getElem?_append_left (by rw [hl]; exact hj)]
  rfl
 | r :: t,i+1,j,h,hj => by
  rw [cellsS_cons,List.getElem?_append_right (by rw [hl,Nat.add_mul]; omega),hl,show (i+1) * sz+j - sz=i * sz+j by rw [Nat.add_mul]; omega,cellsS_at hl zero t i j (by simpa using h) hj]
  rfl

theorem cellsS_single (ho:∀ a,∀ u ∈ vals a,u.oneCell'=true) (t:List α):∀ u ∈ cellsS vals t,u.oneCell'=true:=by
 intro u hu
 obtain⟨l,hl,hu⟩:=List.mem_flatten.1 hu
 obtain⟨r,_,rfl⟩:=List.mem_map.1 hl
 exact ho r u hu

theorem cellsS_take (hl:∀ a,(vals a).length=sz) (u:List α) (o:Nat):(cellsS vals u).take (o * sz)=cellsS vals (u.take o):=by
 have h:=cellsS_append (vals:=vals) (u.take o) (u.drop o)
 rw [List.take_append_drop] at h
 rw [h]
 by_cases ho:o≤u.length
 ·rw [List.take_left' (by rw [cellsS_len hl,List.length_take,Nat.min_eq_left ho])]
 ·have e1:u.drop o=[]:=List.drop_of_length_le (by omega)
  have e2:u.take o=u:=List.take_of_length_le (by omega)
  rw [e1,e2,cellsS_nil,List.append_nil,List.take_of_length_le (by rw [cellsS_len hl]; exact Nat.mul_le_mul_right _ (by omega))]

theorem cellsS_drop (hl:∀ a,(vals a).length=sz) (u:List α) (o:Nat):(cellsS vals u).drop (o * sz)=cellsS vals (u.drop o):=by
 have h:=cellsS_append (vals:=vals) (u.take o) (u.drop o)
 rw [List.take_append_drop] at h
 by_cases ho:o≤u.length
 ·rw [h,List.drop_left' (by rw [cellsS_len hl,List.length_take,Nat.min_eq_left ho])]
 ·have e1:u.drop o=[]:=List.drop_of_length_le (by omega)
  rw [e1,cellsS_nil,List.drop_of_length_le (by rw [cellsS_len hl]; exact Nat.mul_le_mul_right _ (by omega))]

def layS {β:Type} (u:List β) (o:Nat) (ms:List β):List β:=u.take o ++ (ms ++ u.drop (o+ms.length))

def putS {β:Type} (t:List β) (i:Nat) (r:β):List β:=t.take i ++ ([r] ++ t.drop i)

end pure

section rows
variable {α:Type} {P:Program} {vals:α→List Value} {sz:Nat} {zero:α} {T S:TypeId} {Z:Value} {bytes:Nat}

def OwnS (vals:α→List Value) (sz:Nat) (T:TypeId) (w:World) (base:Nat) (v:Value) (t:List α):Prop:=w.ownsRow base T sz v t.length (cellsS vals t)

def OwnCS (sz:Nat) (T:TypeId) (w:World) (base g n cap:Nat) (xs:List Value):Prop:=w.ownsRow base T sz (.slice (some ⟨g,0,none⟩) n cap) n xs

def SrcS (vals:α→List Value) (w:World) (ad:Addr) (ms:List α):Prop:=∀ j u,(cellsS vals ms)[j]?=some u→w.cell? (ad.add j)=some u

def CellsAt (w:World) (b o:Nat) (vs:List Value):Prop:=∀ j u,vs[j]?=some u→w.cell? ⟨b,o+j,none⟩=some u

theorem CellsAt.later {w w':World} {b o:Nat} {vs:List Value} (h:CellsAt w b o vs) (hb:Below w.heap.size w w'):CellsAt w' b o vs:=by
 intro j u hu
 have:=h j u hu
 rw [hb.cell (World.block_lt_of_cell? w _ this)]
 exact this

def RdS (vals:α→List Value) (sz:Nat) (zero:α) (w:World) (v:Value) (l:List α):Prop :=
 ∃ a cap,v=.slice a l.length cap∧l.length≤cap∧cap≤maxLen∧(a=none→cap=0) ∧
  (l=[]∨∃ b off,a=some ⟨b,off,none⟩∧b < w.heap.size∧∀ i,i < l.length→CellsAt w b (off+i * sz) (vals (l.getD i zero)))

theorem RdS.later {w w':World} {v:Value} {l:List α} (h:RdS vals sz zero w v l) (hb:Below w.heap.size w w'):RdS vals sz zero w' v l:=by
 obtain⟨a,cap,h1,h2,h3,h4,h5⟩:=h
 refine ⟨a,cap,h1,h2,h3,h4,?_⟩
 rcases h5 with h5 | ⟨b,off,e,hlt,hc⟩
 ·exact .inl h5
 ·exact .inr ⟨b,off,e,Nat.lt_of_lt_of_le hlt hb.size,fun i hi => (hc i hi).later hb⟩

theorem rdS_nil (w:World):RdS vals sz zero w (.slice none 0 0) []:=⟨none,0,rfl,by simp,by simp,fun _ => rfl,.inl rfl⟩

theorem RdS.row {w wr:World} {a:Option Addr} {n cap:Nat} {l:List α} (h:RdS vals sz zero w (.slice a n cap) l) (hb:Below w.heap.size w wr) (k:Nat) (hk:k < l.length) :
  ∃ b off,a=some ⟨b,off,none⟩∧CellsAt wr b (off+k * sz) (vals (l.getD k zero)):=by
 obtain⟨a',cap',e,_,_,_,h⟩:=h.later hb
 simp only [Value.slice.injEq] at e
 rcases h with h | ⟨b,off,e',_,hc⟩
 ·rw [h] at hk; simp at hk
 ·exact⟨b,off,e.1.trans e',hc k hk⟩

theorem RdS.open' {w:World} {v:Value} {l:List α} (h:RdS vals sz zero w v l):∃ a cap,v=.slice a l.length cap∧l.length≤9223372036854775807:=by
 obtain⟨a,cap,e,h1,h2,_⟩:=h
 unfold maxLen at h2
 exact⟨a,cap,e,by omega⟩

theorem OwnS.alloc {w:World} {base:Nat} {v:Value} {t:List α} (h:OwnS vals sz T w base v t) (o:Obj):OwnS vals sz T (w.alloc o) base v t:=World.ownsRow.alloc h o

theorem OwnS.drew {w:World} {base:Nat} {v:Value} {t:List α} (h:OwnS vals sz T w base v t):OwnS vals sz T w.drew base v t:=World.ownsRow.drew h

theorem ownS_nil (w:World) (base:Nat):OwnS vals sz T w base (.slice none 0 0) []:=World.ownsRow_nil w base _ _

theorem ownS_made (w:World):OwnS vals sz T (w.alloc (.cells #[] T)) w.heap.size (.slice (some ⟨w.heap.size,0,none⟩) 0 0) [] :=
 World.ownsRow_made w #[] 0 (Nat.le_refl _) (by decide) (by simp)

theorem OwnS.later {w w':World} {base:Nat} {v:Value} {t:List α} (h:OwnS vals sz T w base v t) (hb:Below w.heap.size w w'):OwnS vals sz T w' base v t:=by
 refine ⟨h.1,?_⟩
 rcases h.2 with h' | ⟨g,cap,cur,h1,h2,h3,h4⟩
 ·exact .inl h'
 ·exact .inr ⟨g,cap,cur,h1,h2,by rw [hb.block g (Array.getElem?_eq_some_iff.1 h3).1]; exact h3,h4⟩

theorem ownS_low {w:World} {base base':Nat} {v:Value} {t:List α} (h:OwnS vals sz T w base v t) (hb:base'≤base):OwnS vals sz T w base' v t:=by
 refine ⟨h.1,?_⟩
 rcases h.2 with h' | ⟨g,cap,cur,h1,h2,h3⟩
 ·exact .inl h'
 ·exact .inr ⟨g,cap,cur,h1,by omega,h3⟩

theorem ltS {i n j sz:Nat} (hi:i < n) (hj:j < sz):i * sz+j < n * sz:=by
 have:=Nat.mul_le_mul_right sz (show i+1≤n by omega)
 rw [Nat.add_mul,Nat.one_mul] at this
 omega

theorem OwnS.rd (D:RowOK P vals sz zero T S Z bytes) {w:World} {base:Nat} {v:Value} {t:List α} (h:OwnS vals sz T w base v t):RdS vals sz zero w v t:=by
 rcases h with ⟨_,⟨rfl,h0⟩ | ⟨g,cap,cur,rfl,hb,hg,hn,hc,hsz,htk⟩⟩
 ·obtain rfl:t=[]:=List.length_eq_zero_iff.1 h0
  exact rdS_nil w
 ·refine ⟨some ⟨g,0,none⟩,cap,rfl,hn,hc,(fun e => by cases e),.inr ⟨g,0,rfl,(Array.getElem?_eq_some_iff.1 hg).1,fun i hi => ?_⟩⟩
  intro j u hu
  have hj:j < sz:=by have:=(List.getElem?_eq_some_iff.1 hu).1; rwa [D.len] at this
  rw [Nat.zero_add,cell_of_row w g (i * sz+j) cur _ (0,0) hg]
  have h1:cur.toList[i * sz+j]?=(cellsS vals t)[i * sz+j]?:=by
   rw [← htk,List.getElem?_take,if_pos (ltS hi hj)]
  rw [← hu,← cellsS_at D.len zero t i j hi hj,← h1]
  simp

theorem OwnS.head {w:World} {base g n cap:Nat} {u:List α} (h:OwnS vals sz T w base (.slice (some ⟨g,0,none⟩) n cap) u):n=u.length∧base≤g∧g < w.heap.size∧n≤cap∧cap≤maxLen∧∃ cur:Array Value,w.heap[g]?=some (.cells cur T (0,0))∧cur.size=cap * sz:=by
 rcases h with ⟨_,⟨h',_⟩ | ⟨g',cap',cur,h',hb,hg,hnc,hcm,hcs,_⟩⟩
 ·simp at h'
 ·simp only [Value.slice.injEq,Option.some.injEq,Addr.mk.injEq,and_true] at h'
  obtain⟨rfl,h2,rfl⟩:=h'
  exact⟨h2,hb,(Array.getElem?_eq_some_iff.1 hg).1,by omega,hcm,cur,hg,hcs⟩

theorem OwnS.cellAt (_D:RowOK P vals sz zero T S Z bytes) {w:World} {base g n cap:Nat} {u:List α} (h:OwnS vals sz T w base (.slice (some ⟨g,0,none⟩) n cap) u) (j:Nat) (hj:j < u.length * sz):w.cell? ⟨g,j,none⟩=(cellsS vals u)[j]?:=by
 have hn:=h.head.1
 subst hn
 exact World.ownsRow.cellAt h j hj

theorem OwnS.frozenAt {w:World} {base g n cap:Nat} {u:List α} (h:OwnS vals sz T w base (.slice (some ⟨g,0,none⟩) n cap) u) (j:Nat):w.frozen? ⟨g,j,none⟩=false:=by
 have hn:=h.head.1
 subst hn
 exact World.ownsRow.frozenAt h j

theorem OwnS.someAt (D:RowOK P vals sz zero T S Z bytes) {w:World} {base g n cap:Nat} {u:List α} (h:OwnS vals sz T w base (.slice (some ⟨g,0,none⟩) n cap) u) (j:Nat) (hj:j < u.length * sz):(w.cell? ⟨g,j,none⟩).isSome=true:=by
 rw [h.cellAt D j hj,List.getElem?_eq_getElem (by rw [cellsS_len D.len]; exact hj)]
 rfl

theorem OwnS.row (D:RowOK P vals sz zero T S Z bytes) {w:World} {base g n cap:Nat} {u:List α} (h:OwnS vals sz T w base (.slice (some ⟨g,0,none⟩) n cap) u) {k:Nat} (hk:k < u.length):CellsAt w g (k * sz) (vals (u.getD k zero)):=by
 intro j x hx
 have hj:j < sz:=by have:=(List.getElem?_eq_some_iff.1 hx).1; rwa [D.len] at this
 rw [h.cellAt D _ (ltS hk hj),cellsS_at D.len zero u k j hk hj,hx]

theorem OwnS.src (D:RowOK P vals sz zero T S Z bytes) {w:World} {base g n cap:Nat} {u:List α} (h:OwnS vals sz T w base (.slice (some ⟨g,0,none⟩) n cap) u) (o k:Nat) (hk:o+k≤u.length):SrcS vals w ⟨g,o * sz,none⟩ ((u.drop o).take k):=by
 intro j x hx
 have hj:=(List.getElem?_eq_some_iff.1 hx).1
 rw [cellsS_len D.len,List.length_take,List.length_drop] at hj
 have h1:min k (u.length - o) * sz≤k * sz:=Nat.mul_le_mul_right _ (Nat.min_le_left _ _)
 have h2:o * sz+k * sz≤u.length * sz:=by rw [← Nat.add_mul]; exact Nat.mul_le_mul_right _ hk
 rw [Addr.add_lit,h.cellAt D _ (by omega),← hx]
 rw [← cellsS_take D.len,← cellsS_drop D.len,List.getElem?_take,if_pos (by omega),List.getElem?_drop]

theorem RdS.src (D:RowOK P vals sz zero T S Z bytes) {w:World} {ad:Addr} {n cap:Nat} {t:List α} (h:RdS vals sz zero w (.slice (some ad) n cap) t):SrcS vals w ad t:=by
 obtain⟨a',cap',e,_,_,_,h⟩:=h
 simp only [Value.slice.injEq] at e
 intro j u hu
 have hj:=(List.getElem?_eq_some_iff.1 hu).1
 rw [cellsS_len D.len] at hj
 rcases h with h | ⟨b,off,e',_,hc⟩
 ·rw [h] at hj; simp at hj
 ·have e2:=e.1.trans e'
  injection e2 with e2
  subst e2
  have hm:j % sz < sz:=Nat.mod_lt _ D.pos
  have hd:j=j / sz * sz+j % sz:=by have:=Nat.div_add_mod j sz; rw [Nat.mul_comm] at this; omega
  have hq:j / sz < t.length:=(Nat.div_lt_iff_lt_mul D.pos).2 hj
  rw [hd,cellsS_at D.len zero t (j / sz) (j % sz) hq hm] at hu
  have:=hc (j / sz) hq (j % sz) u hu
  rw [Addr.add_lit,hd,← Nat.add_assoc]
  exact this

theorem wpList_append_S (D:RowOK P vals sz zero T S Z bytes) {w:World} {ops:Array Oper} {rest:List Oper} {o:Oper} {a:Act} {Q:Exit→Act→World→Prop}
  (hgd:o.guard=none) (s x:Operand) (ho:o.op=.call { callee:=.builtin .append,args:=#[s,x],argTypes:=#[S,S] })
  (base:Nat) (v:Value) (t:List α) (hs:a.eval s=v) (hown:OwnS vals sz T w base v t)
  (ao:Option Addr) (m c:Nat) (ms:List α) (hx:a.eval x=.slice ao m c) (hm:m=ms.length) (hnone:ao=none→c=0∧ms=[])
  (hsome:∀ ad,ao=some ad→SrcS vals w ad ms)
  (hlen:t.length+ms.length < 4294967296) (hbase:base≤w.heap.size)
  (h:∀ v' w',OwnS vals sz T w' base v' (t ++ ms)→Below base w w'→wpList P ops Q rest (a.put o.dst v') w') :
  wpList P ops Q (o :: rest) a w:=by
 obtain⟨i,hi,hz,hsize,hby⟩:=info_parts D.info
 cases ao with
 | none =>
  obtain⟨rfl,rfl⟩:=hnone rfl
  simp only [List.length_nil] at hm
  subst hm
  exact wpList_append_own_none hgd s x S ho base T i sz D.under hi v t.length (cellsS vals t) hs hown hx (h v w (by simpa using hown) (Below.refl _ _))
 | some ad =>
  subst hm
  have hzl:Z.cells.size=sz:=by have:=congrArg List.length D.zvals; rwa [Array.length_toList,D.len] at this
  refine wpList_append_own _ hgd s x S ho base T i _ sz bytes D.under hi hz hsize hby hzl D.pos v t.length (cellsS vals t) hs hown ad ms.length c (cellsS vals ms) hx (cellsS_len D.len ms) (hsome ad rfl) (cellsS_single D.one ms)
   (by unfold maxLen; omega) (Nat.le_trans (Nat.mul_le_mul (show t.length+ms.length≤4294967296 by omega) D.fits) (by decide)) hbase ?_
  intro v' w' hown' hgrow _
  refine h v' w' ?_ ((Below.refl base w).grown hgrow hbase (fun k hk => (World.ownsRow.lt hown k hk).1))
  unfold OwnS
  rw [cellsS_append,List.length_append]
  exact hown'

theorem srcS_new {w:World} {r:α} {cs:Array Value} (hcs:cs.toList=vals r) {e:TypeId} {B:Nat} (hB:B=w.heap.size):∀ ad,some (⟨B,0,none⟩ : Addr)=some ad→SrcS vals (w.alloc (.cells cs e)) ad [r]:=by
 intro ad had j u hu
 subst hB
 obtain rfl:=Option.some.inj had
 rw [cellsS_one,← hcs] at hu
 rw [Addr.add_lit,Nat.zero_add,World.cell?_alloc_at _ _ _ _ rfl,← hu]
 simp

theorem OwnCS.drew {w:World} {base g n cap:Nat} {xs:List Value} (h:OwnCS sz T w base g n cap xs):OwnCS sz T w.drew base g n cap xs:=World.ownsRow.drew h

theorem OwnCS.rows {w:World} {base g cap n:Nat} {t:List α} (h:OwnCS sz T w base g n cap (cellsS vals t)) (hn:n=t.length):OwnS vals sz T w base (.slice (some ⟨g,0,none⟩) n cap) t:=by
 subst hn
 exact h

def LoneS (vals:α→List Value) (T:TypeId) (w:World) (B:Nat) (r:α):Prop:=∃ cs:Array Value,cs.toList=vals r∧w.heap[B]?=some (.cells cs T (0,0))

theorem LoneS.later {w w':World} {B:Nat} {r:α} (h:LoneS vals T w B r) (hb:Below w.heap.size w w'):LoneS vals T w' B r:=by
 obtain⟨cs,h1,h2⟩:=h
 exact⟨cs,h1,(hb.block B (Array.getElem?_eq_some_iff.1 h2).1).trans h2⟩

theorem LoneS.lt {w:World} {B:Nat} {r:α} (h:LoneS vals T w B r):B < w.heap.size:=by
 obtain⟨cs,h1,h2⟩:=h
 exact (Array.getElem?_eq_some_iff.1 h2).1

theorem LoneS.src {w:World} {B:Nat} {r:α} (h:LoneS vals T w B r):SrcS vals w ⟨B,0,none⟩ [r]:=by
 obtain⟨cs,h1,h2⟩:=h
 intro j u hu
 rw [cellsS_one,← h1] at hu
 rw [Addr.add_lit,Nat.zero_add,cell_of_row w B j _ _ (0,0) h2,← hu]
 simp

theorem LoneS.free {w:World} {B:Nat} {r:α} (h:LoneS vals T w B r) (j:Nat):w.frozen? ⟨B,j,none⟩=false:=by
 obtain⟨cs,h1,h2⟩:=h
 exact frozen_of_row w B j _ _ h2

theorem LoneS.shape (hl:∀ a,(vals a).length=sz) {w:World} {B:Nat} {r:α} (h:LoneS vals T w B r):w.shape? B=some (T,sz):=by
 obtain⟨cs,h1,h2⟩:=h
 have hs:cs.size=sz:=by rw [← Array.length_toList,h1,hl]
 simp only [World.shape?,h2,hs]

theorem eqlS_nil_some (D:RowOK P vals sz zero T S Z bytes) (w:World) (x:Addr) (n c:Nat):(binOp .eql S (.slice (some x) n c) (.slice none 0 0)).run P w=.ok (.bool false) w:=by
 rw [Lib.run_eql_slice_nil w _ _ _ _ _ _ _ D.under]
 rfl

theorem eqlS_nil_nil (D:RowOK P vals sz zero T S Z bytes) (w:World) (n c:Nat):(binOp .eql S (.slice none n c) (.slice none 0 0)).run P w=.ok (.bool true) w:=by
 rw [Lib.run_eql_slice_nil w _ _ _ _ _ _ _ D.under]
 rfl

end rows
end
section
open Go.RowKit

theorem below2Z {w a b:World} (h1:Below w.heap.size w a) (h2:Below a.heap.size a b):Below w.heap.size w b:=h1.trans (h2.mono h1.size)

theorem bl_allocZ {w a:World} (h:Below w.heap.size w a) (o:Obj):Below w.heap.size w (a.alloc o):=h.alloc h.size o

theorem bl_newZ (w:World) (o:Obj):Below w.heap.size w (w.alloc o):=(Below.refl _ _).alloc (Nat.le_refl _) o

theorem cellsAt_made {w:World} {cs:Array Value} {vs:List Value} (h:cs.toList=vs) (T:TypeId) {B:Nat} (hB:B=w.heap.size):CellsAt (w.alloc (.cells cs T)) B 0 vs:=by
 subst hB
 intro j u hu
 rw [Nat.zero_add,World.cell?_alloc_at _ _ _ _ rfl,← hu,← h]
 simp

theorem freeAt_made {w:World} {cs:Array Value} (T:TypeId):∀ i,(w.alloc (.cells cs T)).frozen? ⟨w.heap.size,i,none⟩=false:=fun i => by simp
end
section
open Go.RowKit

theorem chgOK:RowOK Tryz.prog chgVals 6 Chg.zero 105 24 (.agg #[.string ⟨#[]⟩,.bool false,.int .i64 0,.int .i64 0,.int .i64 0,.string ⟨#[]⟩]) 64 where
 len _:=rfl
 one a u hu:=by
  simp only [chgVals,List.mem_cons,List.not_mem_nil,or_false] at hu
  rcases hu with rfl | rfl | rfl | rfl | rfl | rfl <;> rfl
 pos:=by decide
 small:=by decide
 under:=Tryz.underlying24
 info:=Tryz.infoChange
 zvals:=rfl
 fits:=by decide

theorem Chgs.rdS {w:World} {v:Value} {t:List Chg} (h:Chgs w v t):RdS chgVals 6 Chg.zero w v t:=by
 obtain⟨a,cap,h1,h2,h3,h4,h5⟩:=h
 refine ⟨a,cap,h1,h2,h3,h4,?_⟩
 rcases h5 with h5 | ⟨b,off,e,hlt,hc⟩
 ·exact .inl h5
 ·refine .inr ⟨b,off,e,hlt,fun i hi => ?_⟩
  obtain⟨c0,c1,c2,c3,c4,c5⟩:=hc i hi
  intro j u hu
  unfold chgVals at hu
  match j,hu with
  | 0,hu => simp only [List.getElem?_cons_zero,Option.some.injEq] at hu; subst hu; exact c0
  | 1,hu => simp only [List.getElem?_cons_succ,List.getElem?_cons_zero,Option.some.injEq] at hu; subst hu; exact c1
  | 2,hu => simp only [List.getElem?_cons_succ,List.getElem?_cons_zero,Option.some.injEq] at hu; subst hu; exact c2
  | 3,hu => simp only [List.getElem?_cons_succ,List.getElem?_cons_zero,Option.some.injEq] at hu; subst hu; exact c3
  | 4,hu => simp only [List.getElem?_cons_succ,List.getElem?_cons_zero,Option.some.injEq] at hu; subst hu; exact c4
  | 5,hu => simp only [List.getElem?_cons_succ,List.getElem?_cons_zero,Option.some.injEq] at hu; subst hu; exact c5
  | j+6,hu => simp at hu

theorem chgs_of {w:World} {v:Value} {t:List Chg} (h:RdS chgVals 6 Chg.zero w v t):Chgs w v t:=by
 obtain⟨a,cap,h1,h2,h3,h4,h5⟩:=h
 refine ⟨a,cap,h1,h2,h3,h4,?_⟩
 rcases h5 with h5 | ⟨b,off,e,hlt,hc⟩
 ·exact .inl h5
 ·exact .inr ⟨b,off,e,hlt,fun i hi => cells6_of (hc i hi)⟩

abbrev OwnQ (w:World) (base:Nat) (v:Value) (l:List Chg):Prop:=OwnS chgVals 6 105 w base v l
theorem OwnQ.chgs {w:World} {base:Nat} {v:Value} {l:List Chg} (h:OwnQ w base v l):Chgs w v l:=chgs_of (OwnS.rd chgOK h)

def ShortC (l:List Chg):Prop:=∀ c ∈ l,c.c.length≤4294967296∧c.v.st.length≤4294967296
theorem ShortC.get {l:List Chg} (h:ShortC l) {k:Nat} (hk:k < l.length):(l.getD k Chg.zero).c.length≤4294967296∧(l.getD k Chg.zero).v.st.length≤4294967296:=by
 rw [List.getD_eq_getElem?_getD,List.getElem?_eq_getElem hk]
 exact h _ (List.getElem_mem hk)

theorem rquplace_yes {w:World} {v:Value} {l:List Chg} (hv:Chgs w v l) (la:Bool) (key:List UInt8) (hh:quHas l key=true) :
  Calls Tryz.prog 89 #[.agg #[v,.bool la],.string ⟨key.toArray⟩] w fun e w' => e=.returned (.int .i64 (quAt l key:Nat))∧Below w.heap.size w w':=by
 have HH:=hZq hh
 obtain⟨hlt0,hat0⟩:=quAt_is hh
 have HLT:=hZq hlt0
 have HAT:Hid (∀ i,i < quAt l key→¬ (l.getD i Chg.zero).c=key):=hZq fun i hi => quAt_not hi
 have HIS:Hid ((l.getD (quAt l key) Chg.zero).c=key):=hZq hat0
 clear hlt0 hat0
 obtain⟨m,hm0⟩ : ∃ m,quAt l key=m:=⟨_,rfl⟩
 rw [hm0] at HLT HAT HIS ⊢
 clear hm0
 obtain⟨ao,cap,rfl,hmx⟩:=hv.open'
 have b0:=bl_newZ w (.cells #[.slice ao l.length cap,.bool la] 26)
 have HV:=hZq (hv.later b0)
 have HB:=hZq b0
 have hq:=(MapKept.heap_alloc w (.cells #[.slice ao l.length cap,.bool la] 26)).1
 have HQ:=hZq hq
 clear hv hh b0 hq
 go_enter Tryz.func89,Tryz.ntmps89
 go_wp2_with fail
 go_loopw [5] (fun i wr => ∃ k:Nat,k≤m∧i=.int .i64 k∧Hid (Below (w.alloc (.cells #[.slice ao l.length cap,.bool la] 26)).heap.size (w.alloc (.cells #[.slice ao l.length cap,.bool la] 26)) wr)) (fun i _ => m - (intOf i).toNat)
 case atStart => exact⟨0,by omega,rfl,Below.refl _ _⟩
 case round =>
  obtain⟨k,hk,rfl,HN⟩:=hrel
  have hlt:k < l.length:=Nat.lt_of_le_of_lt hk HLT.out
  obtain⟨b,off,rfl,h0,h1,h2,h3,h4,h5⟩:=HV.out.row HN.out k hlt
  obtain⟨q0,q1⟩ : wr.cell? ⟨w.heap.size,0,none⟩=some (.slice (some ⟨b,off,none⟩) l.length cap)∧wr.cell? ⟨w.heap.size,1,none⟩=some (.bool la):=by
   have hx:=(HN.out.block w.heap.size (by simp)).trans HQ.out
   exact⟨cell_of_row wr _ 0 _ _ (0,0) hx,cell_of_row wr _ 1 _ _ (0,0) hx⟩
  obtain⟨⟨c,o,⟨x,y,z,st⟩⟩,hr⟩ : ∃ r,l.getD k Chg.zero=r:=⟨_,rfl⟩
  rw [hr] at h0 h1 h2 h3 h4 h5
  simp only at h0 h1 h2 h3 h4 h5
  by_cases hkm:k=m
  ·subst hkm
   have ce:c=key:=by have:=HIS.out; rw [hr] at this; exact this
   have t1:(c == key)=true:=by rw [beq_iff_eq]; exact ce
   clear ce hr
   go_wp2_with fail
   go_ret
   exact⟨rfl,below2Z HB.out HN.out⟩
  ·have hkl:k < m:=by omega
   have ce:¬ c=key:=by have:=HAT.out k hkl; rw [hr] at this; exact this
   have t1:(c == key)=false:=by rw [beq_eq_false_iff_ne]; exact ce
   clear ce hr
   go_wp2_with fail
   go_roundw
   case rel => exact⟨k+1,by omega,by go_num,HN⟩
   case measure => simp [intOf]; omega
end
section
open Go.ChangeShapes Go.WideShapes Go.ChangeAt Go.RowKit Go.Deep

section
variable {H:Type} {enc:TypeId × Value→H} {w:World} {base:Nat} {spare:Nat→Bool} {held:Bool}

theorem trod_int1 {fuel:Nat} {cs:List Value} {x:DataW H × List MemPlace} (h:DataW.trod enc Tryz.prog w base spare held fuel 3 cs=some x):∃ z,cs=[.int .i64 z]:=by
 obtain⟨z,e,_,_⟩:=DataW.trod_int Tryz.underlying3 h
 exact⟨z,e⟩

theorem trod_text {fuel:Nat} {cs:List Value} {x:DataW H × List MemPlace} (h:DataW.trod enc Tryz.prog w base spare held fuel 9 cs=some x):∃ l:List UInt8,cs=[.string ⟨l.toArray⟩]∧l.length≤maxLen:=by
 obtain⟨s,e,_,ws⟩:=DataW.trod_string Tryz.underlying9 h
 exact⟨s.data.toList,by rw [e],Nat.le_trans (Nat.le_of_eq (Array.length_toList (xs:=s.data))) ws⟩

theorem trod_truth {fuel:Nat} {cs:List Value} {x:DataW H × List MemPlace} (h:DataW.trod enc Tryz.prog w base spare held fuel 4 cs=some x):∃ b,cs=[.bool b]:=by
 obtain⟨b,e,_⟩:=DataW.trod_bool Tryz.underlying4 h
 exact⟨b,e⟩

theorem list4 {α:Type} {l:List α} (h:l.length=4):∃ a b c d,l=[a,b,c,d]:=by
 match l,h with
 | [a,b,c,d],_ => exact⟨a,b,c,d,rfl⟩
theorem list5 {α:Type} {l:List α} (h:l.length=5):∃ a b c d e,l=[a,b,c,d,e]:=by
 match l,h with
 | [a,b,c,d,e],_ => exact⟨a,b,c,d,e,rfl⟩
theorem list6 {α:Type} {l:List α} (h:l.length=6):∃ a b c d e f,l=[a,b,c,d,e,f]:=by
 match l,h with
 | [a,b,c,d,e,f],_ => exact⟨a,b,c,d,e,f,rfl⟩

theorem trod_value {fuel:Nat} {cs:List Value} {x:DataW H × List MemPlace} (h:DataW.trod enc Tryz.prog w base spare held fuel 53 cs=some x) :
  ∃ v:Val,cs=[.int .i64 v.sh,.int .i64 v.pr,.int .i64 v.si,.string ⟨v.st.toArray⟩]∧v.st.length≤maxLen:=by
 obtain⟨xs,n,_,_,hl,hx,hf⟩:=DataW.trod_struct Tryz.underlying53 h
 have c35:Tryz.prog.cellsOf 53=4:=by kernel_rfl
 have c3:Tryz.prog.cellsOf 3=1:=by kernel_rfl
 have c9:Tryz.prog.cellsOf 9=1:=by kernel_rfl
 rw [c35] at hl
 obtain⟨a,b,c,d,rfl⟩:=list4 hl
 have get:∀ i,i < 4→xs[i]?=some (xs.getD i (.nil,[])):=fun i hi => by
  have:i < xs.length:=by rw [hx]; exact hi
  simp [List.getD,List.getElem?_eq_getElem this]
 have f0:DataW.trod enc Tryz.prog w base spare held n 3 (([a,b,c,d].drop 0).take (Tryz.prog.cellsOf 3))=some (xs.getD 0 (.nil,[])):=(hf 0 _ rfl).trans (get 0 (by omega))
 have f1:DataW.trod enc Tryz.prog w base spare held n 3 (([a,b,c,d].drop 1).take (Tryz.prog.cellsOf 3))=some (xs.getD 1 (.nil,[])):=(hf 1 _ rfl).trans (get 1 (by omega))
 have f2:DataW.trod enc Tryz.prog w base spare held n 3 (([a,b,c,d].drop 2).take (Tryz.prog.cellsOf 3))=some (xs.getD 2 (.nil,[])):=(hf 2 _ rfl).trans (get 2 (by omega))
 have f3:DataW.trod enc Tryz.prog w base spare held n 9 (([a,b,c,d].drop 3).take (Tryz.prog.cellsOf 9))=some (xs.getD 3 (.nil,[])):=(hf 3 _ rfl).trans (get 3 (by omega))
 rw [c3] at f0 f1 f2
 rw [c9] at f3
 obtain⟨z0,e0⟩:=trod_int1 f0
 obtain⟨z1,e1⟩:=trod_int1 f1
 obtain⟨z2,e2⟩:=trod_int1 f2
 obtain⟨l,e3,w3⟩:=trod_text f3
 simp at e0 e1 e2 e3
 subst e0 e1 e2 e3
 exact⟨⟨z0,z1,z2,l⟩,rfl,w3⟩

theorem trod_row {fuel:Nat} {cs:List Value} {x:DataW H × List MemPlace} (h:DataW.trod enc Tryz.prog w base spare held fuel 73 cs=some x) :
  ∃ r:Row,cs=rowVals r∧r.c.length≤maxLen∧r.v.st.length≤maxLen:=by
 obtain⟨xs,n,_,_,hl,hx,hf⟩:=DataW.trod_struct Tryz.underlying73 h
 have c48:Tryz.prog.cellsOf 73=5:=by kernel_rfl
 have c35:Tryz.prog.cellsOf 53=4:=by kernel_rfl
 have c9:Tryz.prog.cellsOf 9=1:=by kernel_rfl
 rw [c48] at hl
 obtain⟨a,b,c,d,e,rfl⟩:=list5 hl
 have get:∀ i,i < 2→xs[i]?=some (xs.getD i (.nil,[])):=fun i hi => by
  have:i < xs.length:=by rw [hx]; exact hi
  simp [List.getD,List.getElem?_eq_getElem this]
 have f0:DataW.trod enc Tryz.prog w base spare held n 9 (([a,b,c,d,e].drop 0).take (Tryz.prog.cellsOf 9))=some (xs.getD 0 (.nil,[])):=(hf 0 _ rfl).trans (get 0 (by omega))
 have f1:DataW.trod enc Tryz.prog w base spare held n 53 (([a,b,c,d,e].drop 1).take (Tryz.prog.cellsOf 53))=some (xs.getD 1 (.nil,[])):=(hf 1 _ rfl).trans (get 1 (by omega))
 rw [c9] at f0
 rw [c35] at f1
 obtain⟨l,e0,w0⟩:=trod_text f0
 obtain⟨v,e1,w1⟩:=trod_value f1
 simp at e0 e1
 obtain⟨e1,e2,e3,e4⟩:=e1
 subst e0 e1 e2 e3 e4
 exact⟨⟨l,v⟩,rfl,w0,w1⟩

theorem trod_chg {fuel:Nat} {cs:List Value} {x:DataW H × List MemPlace} (h:DataW.trod enc Tryz.prog w base spare held fuel 105 cs=some x) :
  ∃ c:Chg,cs=[.string ⟨c.c.toArray⟩,.bool c.on,.int .i64 c.v.sh,.int .i64 c.v.pr,.int .i64 c.v.si,.string ⟨c.v.st.toArray⟩]∧c.c.length≤maxLen∧c.v.st.length≤maxLen:=by
 obtain⟨xs,n,_,_,hl,hx,hf⟩:=DataW.trod_struct Tryz.underlying105 h
 have c37:Tryz.prog.cellsOf 105=6:=by kernel_rfl
 have c35:Tryz.prog.cellsOf 53=4:=by kernel_rfl
 have c9:Tryz.prog.cellsOf 9=1:=by kernel_rfl
 have c4:Tryz.prog.cellsOf 4=1:=by kernel_rfl
 rw [c37] at hl
 obtain⟨a,b,c,d,e,f,rfl⟩:=list6 hl
 have get:∀ i,i < 3→xs[i]?=some (xs.getD i (.nil,[])):=fun i hi => by
  have:i < xs.length:=by rw [hx]; exact hi
  simp [List.getD,List.getElem?_eq_getElem this]
 have f0:DataW.trod enc Tryz.prog w base spare held n 9 (([a,b,c,d,e,f].drop 0).take (Tryz.prog.cellsOf 9))=some (xs.getD 0 (.nil,[])):=(hf 0 _ rfl).trans (get 0 (by omega))
 have f1:DataW.trod enc Tryz.prog w base spare held n 4 (([a,b,c,d,e,f].drop 1).take (Tryz.prog.cellsOf 4))=some (xs.getD 1 (.nil,[])):=(hf 1 _ rfl).trans (get 1 (by omega))
 have f2:DataW.trod enc Tryz.prog w base spare held n 53 (([a,b,c,d,e,f].drop 2).take (Tryz.prog.cellsOf 53))=some (xs.getD 2 (.nil,[])):=(hf 2 _ rfl).trans (get 2 (by omega))
 rw [c9] at f0
 rw [c4] at f1
 rw [c35] at f2
 obtain⟨l,e0,w0⟩:=trod_text f0
 obtain⟨o,e5⟩:=trod_truth f1
 obtain⟨v,e1,w1⟩:=trod_value f2
 simp at e0 e1 e5
 obtain⟨e1,e2,e3,e4⟩:=e1
 subst e0 e1 e2 e3 e4 e5
 exact⟨⟨l,o,v⟩,rfl,w0,w1⟩

theorem choose_rows {n:Nat} {Q:Nat→Row→Prop} (h:∀ i,i < n→∃ r,Q i r):∃ t:List Row,t.length=n∧∀ i,i < n→Q i (t.getD i Row.zero):=by
 induction n with
 | zero => exact⟨[],rfl,fun i hi => absurd hi (by omega)⟩
 | succ n ih =>
  obtain⟨t,hl,ht⟩:=ih fun i hi => h i (by omega)
  obtain⟨r,hr⟩:=h n (by omega)
  refine ⟨t ++ [r],by simp [hl],fun i hi => ?_⟩
  by_cases hin:i < n
  ·have:=ht i hin
   simp only [List.getD] at this ⊢
   rwa [List.getElem?_append_left (by omega)]
  ·obtain rfl:i=n:=by omega
   simp only [List.getD]
   rw [List.getElem?_append_right (by omega),hl]
   simpa using hr

end
end
section
open Go.ChangeShapes Go.WideShapes Go.ChangeAt Go.RowKit Go.Deep

theorem choose_S {α:Type} (zero:α) {n:Nat} {Q:Nat→α→Prop} (h:∀ i,i < n→∃ r,Q i r):∃ t:List α,t.length=n∧∀ i,i < n→Q i (t.getD i zero):=by
 induction n with
 | zero => exact⟨[],rfl,fun i hi => absurd hi (by omega)⟩
 | succ n ih =>
  obtain⟨t,hl,ht⟩:=ih fun i hi => h i (by omega)
  obtain⟨r,hr⟩:=h n (by omega)
  refine ⟨t ++ [r],by simp [hl],fun i hi => ?_⟩
  by_cases hin:i < n
  ·have:=ht i hin
   simp only [List.getD] at this ⊢
   rwa [List.getElem?_append_left (by omega)]
  ·obtain rfl:i=n:=by omega
   simp only [List.getD]
   rw [List.getElem?_append_right (by omega),hl]
   simpa using hr
end
section
open Go.ChangeShapes Go.WideShapes Go.ChangeAt Go.RowKit Go.Deep

section
variable {H:Type} {enc:TypeId × Value→H} {w:World} {base:Nat} {spare:Nat→Bool} {held:Bool}

def cFit (c:Chg):Prop:=c.c.length≤maxLen∧c.v.st.length≤maxLen

theorem trod_chgQ (fuel:Nat) (cs:List Value) (x:DataW H × List MemPlace) (h:DataW.trod enc Tryz.prog w base spare held fuel 105 cs=some x):∃ c:Chg,cs=chgVals c∧cFit c:=by
 obtain⟨c,hc,w1,w2⟩:=trod_chg h
 exact⟨c,hc,w1,w2⟩

theorem rdS_trodQ {fuel:Nat} {cs:List Value} {z:DataW H × List MemPlace} (hf:DataW.trod enc Tryz.prog w base spare held fuel 24 cs=some z) :
  ∃ v,cs=[v]∧∃ t:List Chg,Chgs w v t:=by
 rcases open_slice Tryz.underlying24 hf with ⟨hcs,_⟩ | ⟨x,len,cap,m,n,D',Pl,hcs,_,hl,hm,hmm,_,hi⟩
 ·exact⟨_,hcs,[],chgs_nil w⟩
 ·refine ⟨_,hcs,?_⟩
  have hlm:len≤m:=by rw [hmm]; split <;> omega
  rw [show Tryz.prog.cellsOf 105=6 from by kernel_rfl] at hi
  obtain⟨t,htl,ht⟩:=choose_S Chg.zero (n:=len) (Q:=fun i r => ∀ j u,(chgVals r)[j]?=some u→w.cell? ((x.add (i * 6)).add j)=some u) (fun i hil => by
   obtain⟨cs',hc,htr⟩:=hi i (by omega)
   obtain⟨_,hcl,hat⟩:=World.cells?_some hc
   obtain⟨r,rfl,_⟩:=trod_chgQ _ _ _ htr
   refine ⟨r,fun j u hu => ?_⟩
   have hj:j < 6:=by have:=(List.getElem?_eq_some_iff.1 hu).1; rwa [chgVals_len] at this
   rw [hat j hj,hu])
  refine ⟨t,chgs_of ⟨some x,cap,by rw [htl],by omega,by omega,(fun e => by cases e),?_⟩⟩
  by_cases h0:len=0
  ·exact .inl (List.length_eq_zero_iff.1 (by omega))
  ·obtain⟨b,off,spot⟩:=x
   have hc:=ht 0 (by omega) 0 _ rfl
   have hspot:spot=none:=by simpa [Addr.add] using World.cell?_spot hc
   subst hspot
   refine .inr ⟨b,off,rfl,?_,fun i hil => fun j u hu => ?_⟩
   ·have:=World.block_lt_of_cell? w _ hc
    simpa [Addr.add] using this
   ·have:=ht i (by omega) j u hu
    rwa [Addr.add_lit,Addr.add_lit] at this

def chg2Agg (a b:Chg):Value:=.agg #[.string ⟨a.c.toArray⟩,.bool a.on,.int .i64 a.v.sh,.int .i64 a.v.pr,.int .i64 a.v.si,.string ⟨a.v.st.toArray⟩,.string ⟨b.c.toArray⟩,.bool b.on,.int .i64 b.v.sh,.int .i64 b.v.pr,.int .i64 b.v.si,.string ⟨b.v.st.toArray⟩]

end
end
section

structure Cfg where
 room:Int
 burst:Int
 rate:Int
 per:Int

structure Bkt where
 tok:Int
 at':Int

def pcMay (c:Cfg):Bool:=decide (1≤c.room) && (decide (c.room≤16) && (decide (1≤c.burst) && (decide (c.burst≤64) && (decide (1≤c.rate) && (decide (c.rate≤16) && (decide (1≤c.per) && decide (c.per≤1000)))))))
def pcTime (n:Int):Bool:=decide (0≤n) && decide (n≤1099511627776)
def pcOne (c:Cfg) (b:Bkt):Bool:=pcMay c && (decide (0≤b.tok) && (decide (b.tok≤c.burst) && pcTime b.at'))

def pcNew (c:Cfg) (now:Int):Bkt × Nat:=if (pcMay c && pcTime now)=true then (⟨c.burst,now⟩,0) else (⟨0,0⟩,1)

def pcLev (c:Cfg) (b:Bkt) (now:Int):Int:=if now≤b.at' then b.tok else min c.burst (b.tok+(now - b.at') * c.rate)

def pcLevel (c:Cfg) (b:Bkt) (now:Int):Int:=if (pcOne c b && pcTime now)=true then pcLev c b now else 0

def pcTake (c:Cfg) (b:Bkt) (now:Int):Bkt × Bool :=
 if (pcOne c b && pcTime now)=true then
  (if pcLev c b now=0 then (⟨0,max now b.at'⟩,false) else (⟨pcLev c b now - 1,max now b.at'⟩,true))
 else (b,false)

def pcWait (c:Cfg) (b:Bkt) (now:Int):Int:=if (pcOne c b && pcTime now)=true then (if 1≤pcLev c b now then 0 else 1) else 0

theorem pcMay_iff {c:Cfg}:pcMay c=true ↔ 1≤c.room∧c.room≤16∧1≤c.burst∧c.burst≤64∧1≤c.rate∧c.rate≤16∧1≤c.per∧c.per≤1000:=by
 unfold pcMay; simp only [Bool.and_eq_true,decide_eq_true_eq]

theorem pcTime_iff {n:Int}:pcTime n=true ↔ 0≤n∧n≤1099511627776:=by
 unfold pcTime; simp only [Bool.and_eq_true,decide_eq_true_eq]

theorem pcOne_iff {c:Cfg} {b:Bkt}:pcOne c b=true ↔ pcMay c=true∧0≤b.tok∧b.tok≤c.burst∧0≤b.at'∧b.at'≤1099511627776:=by
 unfold pcOne; simp only [Bool.and_eq_true,decide_eq_true_eq,pcTime_iff]

theorem mul_ge {a r:Int} (ha:1≤a) (hr:1≤r):a≤a * r∧r≤a * r:=by
 have h1:a * 1≤a * r:=Int.mul_le_mul_of_nonneg_left hr (by omega)
 have h2:1 * r≤a * r:=Int.mul_le_mul_of_nonneg_right ha (by omega)
 omega

theorem pcLev_ge {c:Cfg} {b:Bkt} {now:Int} (h:pcOne c b=true):0≤pcLev c b now∧pcLev c b now≤c.burst∧min c.burst b.tok≤pcLev c b now:=by
 obtain⟨hm,h1,h2,h3,h4⟩:=pcOne_iff.1 h
 obtain⟨_,_,m1,m2,m3,m4,_,_⟩:=pcMay_iff.1 hm
 unfold pcLev
 split
 ·omega
 ·next hn =>
  obtain⟨g1,g2⟩:=mul_ge (a:=now - b.at') (r:=c.rate) (by omega) m3
  omega

theorem pcTake_in {c:Cfg} {b:Bkt} {now:Int} (h:pcOne c b=true) (hn:pcTime now=true) :
  pcTake c b now=if pcLev c b now=0 then (⟨0,max now b.at'⟩,false) else (⟨pcLev c b now - 1,max now b.at'⟩,true):=by
 unfold pcTake
 rw [if_pos (by rw [h,hn]; rfl)]

structure RateOK (c:Cfg) (b:Bkt) (at':List Int):Prop where
 left:∀ i (hi:i < at'.length),((at'.length - i:Nat):Int)+b.tok≤c.burst+c.rate * (b.at' - at'[i])
 all:∀ i k (hk:k < at'.length) (hik:i≤k),((k - i+1:Nat):Int)≤c.burst+c.rate * (at'[k] - at'[i]'(by omega))
end
section
open Go.ChangeShapes Go.WideShapes Go.ChangeAt Go.RowKit Go.Deep

structure CfgFit (c:Cfg):Prop where
 room:(Lit.int .i64 c.room).wf=true
 burst:(Lit.int .i64 c.burst).wf=true
 rate:(Lit.int .i64 c.rate).wf=true
 per:(Lit.int .i64 c.per).wf=true

structure BktFit (b:Bkt):Prop where
 tok:(Lit.int .i64 b.tok).wf=true
 at':(Lit.int .i64 b.at').wf=true

section
variable {H:Type} {enc:TypeId × Value→H} {w:World} {base:Nat} {spare:Nat→Bool} {held:Bool}

theorem list4P {α:Type} {l:List α} (h:l.length=4):∃ a b c d,l=[a,b,c,d]:=by
 match l,h with
 | [a,b,c,d],_ => exact⟨a,b,c,d,rfl⟩

theorem trod_intP {fuel:Nat} {cs:List Value} {x:DataW H × List MemPlace} (h:DataW.trod enc Tryz.prog w base spare held fuel 3 cs=some x):∃ z,cs=[.int .i64 z]∧(Lit.int .i64 z).wf=true:=by
 obtain⟨z,e,_,hw⟩:=DataW.trod_int Tryz.underlying3 h
 exact⟨z,e,hw⟩

theorem trod_cfg {fuel:Nat} {cs:List Value} {x:DataW H × List MemPlace} (h:DataW.trod enc Tryz.prog w base spare held fuel 23 cs=some x) :
  ∃ v:Cfg,cs=[.int .i64 v.room,.int .i64 v.burst,.int .i64 v.rate,.int .i64 v.per]∧CfgFit v:=by
 obtain⟨xs,n,_,_,hl,hx,hf⟩:=DataW.trod_struct Tryz.underlying23 h
 have c35:Tryz.prog.cellsOf 23=4:=by kernel_rfl
 have c3:Tryz.prog.cellsOf 3=1:=by kernel_rfl
 rw [c35] at hl
 obtain⟨a,b,c,d,rfl⟩:=list4P hl
 have get:∀ i,i < 4→xs[i]?=some (xs.getD i (.nil,[])):=fun i hi => by
  have:i < xs.length:=by rw [hx]; exact hi
  simp [List.getD,List.getElem?_eq_getElem this]
 have f0:DataW.trod enc Tryz.prog w base spare held n 3 (([a,b,c,d].drop 0).take (Tryz.prog.cellsOf 3))=some (xs.getD 0 (.nil,[])):=(hf 0 _ rfl).trans (get 0 (by omega))
 have f1:DataW.trod enc Tryz.prog w base spare held n 3 (([a,b,c,d].drop 1).take (Tryz.prog.cellsOf 3))=some (xs.getD 1 (.nil,[])):=(hf 1 _ rfl).trans (get 1 (by omega))
 have f2:DataW.trod enc Tryz.prog w base spare held n 3 (([a,b,c,d].drop 2).take (Tryz.prog.cellsOf 3))=some (xs.getD 2 (.nil,[])):=(hf 2 _ rfl).trans (get 2 (by omega))
 have f3:DataW.trod enc Tryz.prog w base spare held n 3 (([a,b,c,d].drop 3).take (Tryz.prog.cellsOf 3))=some (xs.getD 3 (.nil,[])):=(hf 3 _ rfl).trans (get 3 (by omega))
 rw [c3] at f0 f1 f2 f3
 obtain⟨z0,e0,w0⟩:=trod_intP f0
 obtain⟨z1,e1,w1⟩:=trod_intP f1
 obtain⟨z2,e2,w2⟩:=trod_intP f2
 obtain⟨z3,e3,w3⟩:=trod_intP f3
 simp at e0 e1 e2 e3
 subst e0 e1 e2 e3
 exact⟨⟨z0,z1,z2,z3⟩,rfl,⟨w0,w1,w2,w3⟩⟩

theorem open_cfg {r:Reach} {b0:Nat} {v:Value} {d:DataW H} {p:List MemPlace} (hv:Value.okWide Tryz.prog w r b0 23 v) (h:DataW.Trod enc Tryz.prog w base spare held 23 v d p) :
  ∃ c:Cfg,v=.agg #[.int .i64 c.room,.int .i64 c.burst,.int .i64 c.rate,.int .i64 c.per]∧CfgFit c:=by
 obtain⟨cs,rfl,_⟩:=okWide_struct Tryz.underlying23 hv
 obtain⟨fuel,hf⟩:=h
 obtain⟨c,hc,w1⟩:=trod_cfg hf
 refine ⟨c,?_,w1⟩
 obtain⟨l⟩:=cs
 simp [Value.cells] at hc
 rw [hc]

end
end
section
open Go.ChangeShapes Go.WideShapes Go.ChangeAt Go.RowKit Go.Deep

section
variable {H:Type} {enc:TypeId × Value→H} {w:World} {base:Nat} {spare:Nat→Bool} {held:Bool}

theorem trod_intL {fuel:Nat} {cs:List Value} {x:DataW H × List MemPlace} (h:DataW.trod enc Tryz.prog w base spare held fuel 3 cs=some x):∃ z,cs=[.int .i64 z]∧(Lit.int .i64 z).wf=true:=by
 obtain⟨z,e,_,hw⟩:=DataW.trod_int Tryz.underlying3 h
 exact⟨z,e,hw⟩

theorem rdS_trodT {fuel:Nat} {cs:List Value} {z:DataW H × List MemPlace} (hf:DataW.trod enc Tryz.prog w base spare held fuel 31 cs=some z) :
  ∃ v,cs=[v]∧∃ t:List Row,Tab w v t:=by
 rcases open_slice Tryz.underlying31 hf with ⟨hcs,_⟩ | ⟨x,len,cap,m,n,D',Pl,hcs,_,hl,hm,hmm,_,hi⟩
 ·exact⟨_,hcs,[],tab_nil w⟩
 ·refine ⟨_,hcs,?_⟩
  have hlm:len≤m:=by rw [hmm]; split <;> omega
  rw [show Tryz.prog.cellsOf 73=5 from by kernel_rfl] at hi
  obtain⟨t,htl,ht⟩:=choose_rows (n:=len) (Q:=fun i r => ∀ j u,(rowVals r)[j]?=some u→w.cell? ((x.add (i * 5)).add j)=some u) (fun i hil => by
   obtain⟨cs',hc,htr⟩:=hi i (by omega)
   obtain⟨_,hcl,hat⟩:=World.cells?_some hc
   obtain⟨r,rfl,_,_⟩:=trod_row htr
   refine ⟨r,fun j u hu => ?_⟩
   have hj:j < 5:=by have:=(List.getElem?_eq_some_iff.1 hu).1; rwa [rowVals_len] at this
   rw [hat j hj,hu])
  refine ⟨t,⟨some x,cap,by rw [htl],by omega,by omega,(fun e => by cases e),?_⟩⟩
  by_cases h0:len=0
  ·exact .inl (List.length_eq_zero_iff.1 (by omega))
  ·obtain⟨b,off,spot⟩:=x
   have hc:=ht 0 (by omega) 0 _ rfl
   have hspot:spot=none:=by simpa [Addr.add] using World.cell?_spot hc
   subst hspot
   refine .inr ⟨b,off,rfl,?_,fun i hil => cells5_of fun j u hu => ?_⟩
   ·have:=World.block_lt_of_cell? w _ hc
    simpa [Addr.add] using this
   ·have:=ht i (by omega) j u hu
    rwa [Addr.add_lit,Addr.add_lit] at this

theorem list2_queL {α:Type} {l:List α} (h:l.length=2):∃ c0 c1,l=[c0,c1]:=by
 match l,h with
 | [c0,c1],_ => exact⟨c0,c1,rfl⟩

theorem trod_queL (fuel:Nat) (cs:List Value) (x:DataW H × List MemPlace) (h:DataW.trod enc Tryz.prog w base spare held fuel 26 cs=some x) :
  ∃ (a0:Value) (a1:Bool),cs=[a0,.bool a1]∧(∃ t:List Chg,Chgs w a0 t):=by
 obtain⟨xs,n,_,_,hl,hx,hf⟩:=DataW.trod_struct Tryz.underlying26 h
 have cc:Tryz.prog.cellsOf 26=2:=by kernel_rfl
 have ci:Tryz.prog.cellsOf 3=1:=by kernel_rfl
 have cx:Tryz.prog.cellsOf 9=1:=by kernel_rfl
 have cb:Tryz.prog.cellsOf 4=1:=by kernel_rfl
 have cq:Tryz.prog.cellsOf 24=1:=by kernel_rfl
 rw [cc] at hl
 obtain⟨c0,c1,rfl⟩:=list2_queL hl
 have get:∀ i,i < 2→xs[i]?=some (xs.getD i (.nil,[])):=fun i hi => by
  have:i < xs.length:=by rw [hx]; exact hi
  simp [List.getD,List.getElem?_eq_getElem this]
 have f0:DataW.trod enc Tryz.prog w base spare held n 24 (([c0,c1].drop 0).take (Tryz.prog.cellsOf 24))=some (xs.getD 0 (.nil,[])):=(hf 0 _ rfl).trans (get 0 (by omega))
 rw [cq] at f0
 obtain⟨z0,e0,w0⟩:=rdS_trodQ f0
 have f1:DataW.trod enc Tryz.prog w base spare held n 4 (([c0,c1].drop 1).take (Tryz.prog.cellsOf 4))=some (xs.getD 1 (.nil,[])):=(hf 1 _ rfl).trans (get 1 (by omega))
 rw [cb] at f1
 obtain⟨z1,e1,_⟩:=DataW.trod_bool Tryz.underlying4 f1
 simp at e0 e1
 subst e0 e1
 exact⟨c0,z1,rfl,w0⟩

theorem list2_bktL {α:Type} {l:List α} (h:l.length=2):∃ c0 c1,l=[c0,c1]:=by
 match l,h with
 | [c0,c1],_ => exact⟨c0,c1,rfl⟩

theorem trod_bktL (fuel:Nat) (cs:List Value) (x:DataW H × List MemPlace) (h:DataW.trod enc Tryz.prog w base spare held fuel 28 cs=some x) :
  ∃ (a0:Int) (a1:Int),cs=[.int .i64 a0,.int .i64 a1]∧(Lit.int .i64 a0).wf=true∧(Lit.int .i64 a1).wf=true:=by
 obtain⟨xs,n,_,_,hl,hx,hf⟩:=DataW.trod_struct Tryz.underlying28 h
 have cc:Tryz.prog.cellsOf 28=2:=by kernel_rfl
 have ci:Tryz.prog.cellsOf 3=1:=by kernel_rfl
 have cx:Tryz.prog.cellsOf 9=1:=by kernel_rfl
 rw [cc] at hl
 obtain⟨c0,c1,rfl⟩:=list2_bktL hl
 have get:∀ i,i < 2→xs[i]?=some (xs.getD i (.nil,[])):=fun i hi => by
  have:i < xs.length:=by rw [hx]; exact hi
  simp [List.getD,List.getElem?_eq_getElem this]
 have f0:DataW.trod enc Tryz.prog w base spare held n 3 (([c0,c1].drop 0).take (Tryz.prog.cellsOf 3))=some (xs.getD 0 (.nil,[])):=(hf 0 _ rfl).trans (get 0 (by omega))
 rw [ci] at f0
 obtain⟨z0,e0,w0⟩:=trod_intL f0
 have f1:DataW.trod enc Tryz.prog w base spare held n 3 (([c0,c1].drop 1).take (Tryz.prog.cellsOf 3))=some (xs.getD 1 (.nil,[])):=(hf 1 _ rfl).trans (get 1 (by omega))
 rw [ci] at f1
 obtain⟨z1,e1,w1⟩:=trod_intL f1
 simp at e0 e1
 subst e0 e1
 exact⟨z0,z1,rfl,w0,w1⟩

theorem list7_lnk {α:Type} {l:List α} (h:l.length=7):∃ c0 c1 c2 c3 c4 c5 c6,l=[c0,c1,c2,c3,c4,c5,c6]:=by
 match l,h with
 | [c0,c1,c2,c3,c4,c5,c6],_ => exact⟨c0,c1,c2,c3,c4,c5,c6,rfl⟩

theorem trod_lnk (fuel:Nat) (cs:List Value) (x:DataW H × List MemPlace) (h:DataW.trod enc Tryz.prog w base spare held fuel 30 cs=some x) :
  ∃ (a0:Int) (a1:Value) (a2:Bool) (a3:Int) (a4:Int) (a5:Bool) (a6:Int),cs=[.int .i64 a0,a1,.bool a2,.int .i64 a3,.int .i64 a4,.bool a5,.int .i64 a6]∧(Lit.int .i64 a0).wf=true∧(∃ t:List Chg,Chgs w a1 t)∧(Lit.int .i64 a3).wf=true∧(Lit.int .i64 a4).wf=true∧(Lit.int .i64 a6).wf=true:=by
 obtain⟨xs,n,_,_,hl,hx,hf⟩:=DataW.trod_struct Tryz.underlying30 h
 have cc:Tryz.prog.cellsOf 30=7:=by kernel_rfl
 have ci:Tryz.prog.cellsOf 3=1:=by kernel_rfl
 have cx:Tryz.prog.cellsOf 9=1:=by kernel_rfl
 have cb:Tryz.prog.cellsOf 4=1:=by kernel_rfl
 have ct1:Tryz.prog.cellsOf 26=2:=by kernel_rfl
 have ct2:Tryz.prog.cellsOf 28=2:=by kernel_rfl
 rw [cc] at hl
 obtain⟨c0,c1,c2,c3,c4,c5,c6,rfl⟩:=list7_lnk hl
 have get:∀ i,i < 5→xs[i]?=some (xs.getD i (.nil,[])):=fun i hi => by
  have:i < xs.length:=by rw [hx]; exact hi
  simp [List.getD,List.getElem?_eq_getElem this]
 have f0:DataW.trod enc Tryz.prog w base spare held n 3 (([c0,c1,c2,c3,c4,c5,c6].drop 0).take (Tryz.prog.cellsOf 3))=some (xs.getD 0 (.nil,[])):=(hf 0 _ rfl).trans (get 0 (by omega))
 rw [ci] at f0
 obtain⟨z0,e0,w0⟩:=trod_intL f0
 have f1:DataW.trod enc Tryz.prog w base spare held n 26 (([c0,c1,c2,c3,c4,c5,c6].drop 1).take (Tryz.prog.cellsOf 26))=some (xs.getD 1 (.nil,[])):=(hf 1 _ rfl).trans (get 1 (by omega))
 rw [ct1] at f1
 obtain⟨z1_0,z1_1,e1,w1_0⟩:=trod_queL _ _ _ f1
 have f2:DataW.trod enc Tryz.prog w base spare held n 28 (([c0,c1,c2,c3,c4,c5,c6].drop 3).take (Tryz.prog.cellsOf 28))=some (xs.getD 2 (.nil,[])):=(hf 2 _ rfl).trans (get 2 (by omega))
 rw [ct2] at f2
 obtain⟨z2_0,z2_1,e2,w2_0,w2_1⟩:=trod_bktL _ _ _ f2
 have f3:DataW.trod enc Tryz.prog w base spare held n 4 (([c0,c1,c2,c3,c4,c5,c6].drop 5).take (Tryz.prog.cellsOf 4))=some (xs.getD 3 (.nil,[])):=(hf 3 _ rfl).trans (get 3 (by omega))
 rw [cb] at f3
 obtain⟨z3,e3,_⟩:=DataW.trod_bool Tryz.underlying4 f3
 have f4:DataW.trod enc Tryz.prog w base spare held n 3 (([c0,c1,c2,c3,c4,c5,c6].drop 6).take (Tryz.prog.cellsOf 3))=some (xs.getD 4 (.nil,[])):=(hf 4 _ rfl).trans (get 4 (by omega))
 rw [ci] at f4
 obtain⟨z4,e4,w4⟩:=trod_intL f4
 simp at e0 e1 e2 e3 e4
 obtain⟨rfl,rfl⟩:=e1
 obtain⟨rfl,rfl⟩:=e2
 subst e0 e3 e4
 exact⟨z0,c1,z1_1,z2_0,z2_1,z3,z4,rfl,w0,w1_0,w2_0,w2_1,w4⟩

end
end
section
open Go.ChangeShapes Go.WideShapes Go.ChangeAt Go.RowKit Go.Deep

section
variable {H:Type} {enc:TypeId × Value→H} {w:World} {base:Nat} {spare:Nat→Bool} {held:Bool}

theorem list3_cliR {α:Type} {l:List α} (h:l.length=3):∃ c0 c1 c2,l=[c0,c1,c2]:=by
 match l,h with
 | [c0,c1,c2],_ => exact⟨c0,c1,c2,rfl⟩

theorem trod_cliR (fuel:Nat) (cs:List Value) (x:DataW H × List MemPlace) (h:DataW.trod enc Tryz.prog w base spare held fuel 33 cs=some x) :
  ∃ (a0:Value) (a1:Int) (a2:Bool),cs=[a0,.int .i64 a1,.bool a2]∧(∃ t:List Row,Tab w a0 t)∧(Lit.int .i64 a1).wf=true:=by
 obtain⟨xs,n,_,_,hl,hx,hf⟩:=DataW.trod_struct Tryz.underlying33 h
 have cc:Tryz.prog.cellsOf 33=3:=by kernel_rfl
 have ci:Tryz.prog.cellsOf 3=1:=by kernel_rfl
 have cx:Tryz.prog.cellsOf 9=1:=by kernel_rfl
 have cb:Tryz.prog.cellsOf 4=1:=by kernel_rfl
 have cr:Tryz.prog.cellsOf 31=1:=by kernel_rfl
 rw [cc] at hl
 obtain⟨c0,c1,c2,rfl⟩:=list3_cliR hl
 have get:∀ i,i < 3→xs[i]?=some (xs.getD i (.nil,[])):=fun i hi => by
  have:i < xs.length:=by rw [hx]; exact hi
  simp [List.getD,List.getElem?_eq_getElem this]
 have f0:DataW.trod enc Tryz.prog w base spare held n 31 (([c0,c1,c2].drop 0).take (Tryz.prog.cellsOf 31))=some (xs.getD 0 (.nil,[])):=(hf 0 _ rfl).trans (get 0 (by omega))
 rw [cr] at f0
 obtain⟨z0,e0,w0⟩:=rdS_trodT f0
 have f1:DataW.trod enc Tryz.prog w base spare held n 3 (([c0,c1,c2].drop 1).take (Tryz.prog.cellsOf 3))=some (xs.getD 1 (.nil,[])):=(hf 1 _ rfl).trans (get 1 (by omega))
 rw [ci] at f1
 obtain⟨z1,e1,w1⟩:=trod_intL f1
 have f2:DataW.trod enc Tryz.prog w base spare held n 4 (([c0,c1,c2].drop 2).take (Tryz.prog.cellsOf 4))=some (xs.getD 2 (.nil,[])):=(hf 2 _ rfl).trans (get 2 (by omega))
 rw [cb] at f2
 obtain⟨z2,e2,_⟩:=DataW.trod_bool Tryz.underlying4 f2
 simp at e0 e1 e2
 subst e0 e1 e2
 exact⟨c0,z1,z2,rfl,w0,w1⟩

theorem list10_rside {α:Type} {l:List α} (h:l.length=10):∃ c0 c1 c2 c3 c4 c5 c6 c7 c8 c9,l=[c0,c1,c2,c3,c4,c5,c6,c7,c8,c9]:=by
 match l,h with
 | [c0,c1,c2,c3,c4,c5,c6,c7,c8,c9],_ => exact⟨c0,c1,c2,c3,c4,c5,c6,c7,c8,c9,rfl⟩

theorem trod_rside (fuel:Nat) (cs:List Value) (x:DataW H × List MemPlace) (h:DataW.trod enc Tryz.prog w base spare held fuel 35 cs=some x) :
  ∃ (a0:Int) (a1:Value) (a2:Bool) (a3:Int) (a4:Int) (a5:Bool) (a6:Int) (a7:Value) (a8:Int) (a9:Bool),cs=[.int .i64 a0,a1,.bool a2,.int .i64 a3,.int .i64 a4,.bool a5,.int .i64 a6,a7,.int .i64 a8,.bool a9]∧(Lit.int .i64 a0).wf=true∧(∃ t:List Chg,Chgs w a1 t)∧(Lit.int .i64 a3).wf=true∧(Lit.int .i64 a4).wf=true∧(Lit.int .i64 a6).wf=true∧(∃ t:List Row,Tab w a7 t)∧(Lit.int .i64 a8).wf=true:=by
 obtain⟨xs,n,_,_,hl,hx,hf⟩:=DataW.trod_struct Tryz.underlying35 h
 have cc:Tryz.prog.cellsOf 35=10:=by kernel_rfl
 have ci:Tryz.prog.cellsOf 3=1:=by kernel_rfl
 have cx:Tryz.prog.cellsOf 9=1:=by kernel_rfl
 have ct0:Tryz.prog.cellsOf 30=7:=by kernel_rfl
 have ct1:Tryz.prog.cellsOf 33=3:=by kernel_rfl
 rw [cc] at hl
 obtain⟨c0,c1,c2,c3,c4,c5,c6,c7,c8,c9,rfl⟩:=list10_rside hl
 have get:∀ i,i < 2→xs[i]?=some (xs.getD i (.nil,[])):=fun i hi => by
  have:i < xs.length:=by rw [hx]; exact hi
  simp [List.getD,List.getElem?_eq_getElem this]
 have f0:DataW.trod enc Tryz.prog w base spare held n 30 (([c0,c1,c2,c3,c4,c5,c6,c7,c8,c9].drop 0).take (Tryz.prog.cellsOf 30))=some (xs.getD 0 (.nil,[])):=(hf 0 _ rfl).trans (get 0 (by omega))
 rw [ct0] at f0
 obtain⟨z0_0,z0_1,z0_2,z0_3,z0_4,z0_5,z0_6,e0,w0_0,w0_1,w0_3,w0_4,w0_6⟩:=trod_lnk _ _ _ f0
 have f1:DataW.trod enc Tryz.prog w base spare held n 33 (([c0,c1,c2,c3,c4,c5,c6,c7,c8,c9].drop 7).take (Tryz.prog.cellsOf 33))=some (xs.getD 1 (.nil,[])):=(hf 1 _ rfl).trans (get 1 (by omega))
 rw [ct1] at f1
 obtain⟨z1_0,z1_1,z1_2,e1,w1_0,w1_1⟩:=trod_cliR _ _ _ f1
 simp at e0 e1
 obtain⟨rfl,rfl,rfl,rfl,rfl,rfl,rfl⟩:=e0
 obtain⟨rfl,rfl,rfl⟩:=e1
 exact⟨z0_0,c1,z0_2,z0_3,z0_4,z0_5,z0_6,c7,z1_1,z1_2,rfl,w0_0,w0_1,w0_3,w0_4,w0_6,w1_0,w1_1⟩

theorem open_rside {r:Reach} {b0:Nat} {v:Value} {d:DataW H} {p:List MemPlace} (hv:Value.okWide Tryz.prog w r b0 35 v) (h:DataW.Trod enc Tryz.prog w base spare held 35 v d p) :
  ∃ (a0:Int) (a1:Value) (a2:Bool) (a3:Int) (a4:Int) (a5:Bool) (a6:Int) (a7:Value) (a8:Int) (a9:Bool),v=.agg #[.int .i64 a0,a1,.bool a2,.int .i64 a3,.int .i64 a4,.bool a5,.int .i64 a6,a7,.int .i64 a8,.bool a9]∧(Lit.int .i64 a0).wf=true∧(∃ t:List Chg,Chgs w a1 t)∧(Lit.int .i64 a3).wf=true∧(Lit.int .i64 a4).wf=true∧(Lit.int .i64 a6).wf=true∧(∃ t:List Row,Tab w a7 t)∧(Lit.int .i64 a8).wf=true:=by
 obtain⟨cs,rfl,_⟩:=okWide_struct Tryz.underlying35 hv
 obtain⟨fuel,hf⟩:=h
 obtain⟨a0,a1,a2,a3,a4,a5,a6,a7,a8,a9,hc,ww⟩:=trod_rside _ _ _ hf
 refine ⟨a0,a1,a2,a3,a4,a5,a6,a7,a8,a9,?_,ww⟩
 obtain⟨l⟩:=cs
 simp only [Value.cells] at hc
 rw [hc]

theorem list3_rview {α:Type} {l:List α} (h:l.length=3):∃ c0 c1 c2,l=[c0,c1,c2]:=by
 match l,h with
 | [c0,c1,c2],_ => exact⟨c0,c1,c2,rfl⟩

theorem trod_rview (fuel:Nat) (cs:List Value) (x:DataW H × List MemPlace) (h:DataW.trod enc Tryz.prog w base spare held fuel 37 cs=some x) :
  ∃ (a0:Value) (a1:Int) (a2:Int),cs=[a0,.int .i64 a1,.int .i64 a2]∧(∃ t:List Row,Tab w a0 t)∧(Lit.int .i64 a1).wf=true∧(Lit.int .i64 a2).wf=true:=by
 obtain⟨xs,n,_,_,hl,hx,hf⟩:=DataW.trod_struct Tryz.underlying37 h
 have cc:Tryz.prog.cellsOf 37=3:=by kernel_rfl
 have ci:Tryz.prog.cellsOf 3=1:=by kernel_rfl
 have cx:Tryz.prog.cellsOf 9=1:=by kernel_rfl
 have cr:Tryz.prog.cellsOf 31=1:=by kernel_rfl
 rw [cc] at hl
 obtain⟨c0,c1,c2,rfl⟩:=list3_rview hl
 have get:∀ i,i < 3→xs[i]?=some (xs.getD i (.nil,[])):=fun i hi => by
  have:i < xs.length:=by rw [hx]; exact hi
  simp [List.getD,List.getElem?_eq_getElem this]
 have f0:DataW.trod enc Tryz.prog w base spare held n 31 (([c0,c1,c2].drop 0).take (Tryz.prog.cellsOf 31))=some (xs.getD 0 (.nil,[])):=(hf 0 _ rfl).trans (get 0 (by omega))
 rw [cr] at f0
 obtain⟨z0,e0,w0⟩:=rdS_trodT f0
 have f1:DataW.trod enc Tryz.prog w base spare held n 3 (([c0,c1,c2].drop 1).take (Tryz.prog.cellsOf 3))=some (xs.getD 1 (.nil,[])):=(hf 1 _ rfl).trans (get 1 (by omega))
 rw [ci] at f1
 obtain⟨z1,e1,w1⟩:=trod_intL f1
 have f2:DataW.trod enc Tryz.prog w base spare held n 3 (([c0,c1,c2].drop 2).take (Tryz.prog.cellsOf 3))=some (xs.getD 2 (.nil,[])):=(hf 2 _ rfl).trans (get 2 (by omega))
 rw [ci] at f2
 obtain⟨z2,e2,w2⟩:=trod_intL f2
 simp at e0 e1 e2
 subst e0 e1 e2
 exact⟨c0,z1,z2,rfl,w0,w1,w2⟩

theorem open_rview {r:Reach} {b0:Nat} {v:Value} {d:DataW H} {p:List MemPlace} (hv:Value.okWide Tryz.prog w r b0 37 v) (h:DataW.Trod enc Tryz.prog w base spare held 37 v d p) :
  ∃ (a0:Value) (a1:Int) (a2:Int),v=.agg #[a0,.int .i64 a1,.int .i64 a2]∧(∃ t:List Row,Tab w a0 t)∧(Lit.int .i64 a1).wf=true∧(Lit.int .i64 a2).wf=true:=by
 obtain⟨cs,rfl,_⟩:=okWide_struct Tryz.underlying37 hv
 obtain⟨fuel,hf⟩:=h
 obtain⟨a0,a1,a2,hc,ww⟩:=trod_rview _ _ _ hf
 refine ⟨a0,a1,a2,?_,ww⟩
 obtain⟨l⟩:=cs
 simp only [Value.cells] at hc
 rw [hc]

end
end
end Go.Proofs.YtmpigdokghngiaaGreat
