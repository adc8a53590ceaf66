/-
 TEXTS OF THE PROOF, one behind the other: BesVal, BesLive, BesBoth, DigRow.
-/
import Derived.Test.YtphfinlfabklmaaGreatB24
import Derived.Test.YtphfinlfabklmaaGreatB21
import Derived.Test.YtphfinlfabklmaaGreatB01
import Derived.Laws.StructEq
import Derived.Laws.AppendOwnNone
import Derived.Laws.OwnMore

set_option maxHeartbeats 12800000
set_option maxRecDepth 100000

section

namespace Go.Proofs.YtphfinlfabklmaaGreat
open Go.RowKit

theorem bvalue_yes {w:World} {v:Value} {l:List Ses} (hv:Sess w v l) (hf:∀ s ∈ l,SesFit s) (h0:0 < l.length) {st:List UInt8} {a b c:Int} (hr:besV l=⟨a,b,c,st⟩) :
  Calls Tryz.prog 116 #[v] w fun e w' => e=.returned (.tuple #[.agg #[.int .i64 a,.int .i64 b,.int .i64 c,.string ⟨st.toArray⟩],.bool true])∧Below w.heap.size w w':=by
 have hb1:=bl_newZ w (.cells #[.int .i64 0,.int .i64 0,.int .i64 0,.string ⟨#[]⟩] 30)
 obtain⟨⟨n,id,⟨sh,pr,si,sst⟩⟩,hz⟩ : ∃ s,besOf l=s:=⟨_,rfl⟩
 have HBe:=hD (best_yes (hv.later hb1) hf h0 hz)
 have HV:=hD hv
 obtain⟨ao,cap,rfl,hm⟩:=hv.open'
 have HR:Hid (besV l=⟨a,b,c,st⟩):=hr
 have HZ:=hD hz
 have hsz1:(w.alloc (.cells #[.int .i64 0,.int .i64 0,.int .i64 0,.string ⟨#[]⟩] 30)).heap.size=w.heap.size+1:=World.size_alloc _ _
 clear hv hf hz hr
 go_enter Tryz.func116,Tryz.ntmps116
 go_wp2_with fail
 refine HBe.out.mono ?_
 rintro e w2 ⟨rfl,b2⟩
 obtain⟨W,hW⟩ : ∃ W,W=(w2.alloc (.cells #[.string ⟨n.toArray⟩,.int .i64 id,.int .i64 sh,.int .i64 pr,.int .i64 si,.string ⟨sst.toArray⟩] 122)).alloc (.cells #[.int .i64 sh,.int .i64 pr,.int .i64 si,.string ⟨sst.toArray⟩] 30):=⟨_,rfl⟩
 have hb2:=below2Z hb1 b2
 have hbW:Below w2.heap.size w2 W:=by rw [hW]; exact ((Below.refl _ _).alloc (Nat.le_refl _) _).alloc (by simp) _
 have HW:=hD (below2Z hb2 hbW)
 have hs2:w.heap.size+1≤w2.heap.size:=by rw [← hsz1]; exact b2.size
 have R2:Hid (W.heap[w.heap.size]?=some (.cells #[.int .i64 0,.int .i64 0,.int .i64 0,.string ⟨#[]⟩] 30 (0,0))):=by
  show _=_
  rw [hbW.block _ (by omega),b2.block _ (by omega)]
  exact heap_alloc_new w _
 have X2:Hid (W.heap[w2.heap.size+1]?=some (.cells #[.int .i64 (shTo l sh 0),.int .i64 pr,.int .i64 si,.string ⟨sst.toArray⟩] 30 (0,0))):=by
  show _=_
  rw [hW]
  have:=heap_alloc_new (w2.alloc (.cells #[.string ⟨n.toArray⟩,.int .i64 id,.int .i64 sh,.int .i64 pr,.int .i64 si,.string ⟨sst.toArray⟩] 122)) (.cells #[.int .i64 sh,.int .i64 pr,.int .i64 si,.string ⟨sst.toArray⟩] 30)
  rwa [World.size_alloc] at this
 clear b2 hb2 hb1 hbW HBe
 go_wp2_with fail
 rw [← hW]
 clear hW
 generalize hB:w2.heap.size+1=B at X2 ⊢
 go_loopw [8,21] (fun _ t wr => ∃ k:Nat,k≤l.length∧t=.int .i64 k∧Hid (wr.heap[B]?=some (.cells #[.int .i64 (shTo l sh k),.int .i64 pr,.int .i64 si,.string ⟨sst.toArray⟩] 30 (0,0)))∧Hid (Below B W wr)) (fun _ t _ => l.length - (intOf t).toNat)
 case atStart => exact⟨0,by omega,rfl,X2,Below.refl _ _⟩
 case round =>
  clear X2
  obtain⟨k,hk,rfl,HX,HB⟩:=hrel
  have hBl:=(Array.getElem?_eq_some_iff.1 HX.out).1
  by_cases hlt:k < l.length
  ·obtain⟨bd,od,rfl,hc⟩:=HV.out.row (HW.out.trans (HB.out.mono (by omega))) k hlt
   rw [show l.getD k Ses.zero=sat l k from rfl] at hc
   have hnx:shTo l sh (k+1)=if shTo l sh k < (sat l k).v.sh then (sat l k).v.sh else shTo l sh k:=shTo_next l sh k
   obtain⟨⟨xn,xi,⟨xa,xb,xc,xs⟩⟩,hx⟩ : ∃ s,sat l k=s:=⟨_,rfl⟩
   rw [hx] at hc hnx
   have hX:=HX.out
   obtain⟨y,hy⟩ : ∃ y,shTo l sh k=y:=⟨_,rfl⟩
   rw [hy] at hX hnx
   simp only at hnx
   have HN:=hD hnx
   obtain⟨s0,s1,s2,s3,s4,s5⟩:=cells6 hc
   try simp only at s0 s1 s2 s3 s4 s5
   have z0:wr.cell? ⟨B,0,none⟩=some (.int .i64 y):=cell_of_row wr B 0 _ _ (0,0) hX
   have g0:=frozen_of_row wr B 0 _ _ hX
   have HZ2:Hid (((wr.setCell ⟨B,0,none⟩ (.int .i64 (if y < xa then xa else y))).alloc (.cells #[.string ⟨xn.toArray⟩,.int .i64 xi,.int .i64 xa,.int .i64 xb,.int .i64 xc,.string ⟨xs.toArray⟩] 122)).heap[B]?=some (.cells #[.int .i64 (shTo l sh (k+1)),.int .i64 pr,.int .i64 si,.string ⟨sst.toArray⟩] 30 (0,0))):=by
    show _=_
    rw [heap_alloc_old _ _ (by rw [World.size_setCell]; exact hBl),heap_setCell_same _ B 0 _ _ _ hX,HN.out]
    rfl
   have HB2:Hid (Below B W ((wr.setCell ⟨B,0,none⟩ (.int .i64 (if y < xa then xa else y))).alloc (.cells #[.string ⟨xn.toArray⟩,.int .i64 xi,.int .i64 xa,.int .i64 xb,.int .i64 xc,.string ⟨xs.toArray⟩] 122))):=(HB.out.setCell (Nat.le_refl _) _).alloc (by rw [World.size_setCell]; exact Nat.le_of_lt hBl) _
   clear hx hnx hc hy hX
   go_wp2_with fail
   go_roundw
   case rel => first | exact⟨k+1,by omega,by go_num,HZ2,HB2⟩ | (have hmx:(if y < xa then xa else y)=max y xa:=(by rw [Int.max_def]; split <;> split <;> omega); rw [hmx] at HZ2 HB2; exact⟨k+1,by omega,by go_num,HZ2,HB2⟩)
   case measure => simp [intOf]; omega
  ·obtain rfl:k=l.length:=by omega
   have hX:=HX.out
   have hv2:(⟨shTo l sh l.length,pr,si,sst⟩ : Val)=⟨a,b,c,st⟩:=by
    rw [← HR.out]
    unfold besV
    rw [HZ.out]
   simp only [Val.mk.injEq] at hv2
   obtain⟨e1,rfl,rfl,rfl⟩:=hv2
   rw [e1] at hX
   have z0:wr.cell? ⟨B,0,none⟩=some (.int .i64 a):=cell_of_row wr B 0 _ _ (0,0) hX
   have z1:wr.cell? ⟨B,1,none⟩=some (.int .i64 pr):=cell_of_row wr B 1 _ _ (0,0) hX
   have z2:wr.cell? ⟨B,2,none⟩=some (.int .i64 si):=cell_of_row wr B 2 _ _ (0,0) hX
   have z3:wr.cell? ⟨B,3,none⟩=some (.string ⟨sst.toArray⟩):=cell_of_row wr B 3 _ _ (0,0) hX
   have HWR:=hD (HW.out.trans (HB.out.mono (by omega)))
   have hR:=(HB.out.block w.heap.size (by omega)).trans R2.out
   have o0:wr.cell? ⟨w.heap.size,0,none⟩=some (.int .i64 0):=cell_of_row wr _ 0 _ _ (0,0) hR
   have o1:wr.cell? ⟨w.heap.size,1,none⟩=some (.int .i64 0):=cell_of_row wr _ 1 _ _ (0,0) hR
   have o2:wr.cell? ⟨w.heap.size,2,none⟩=some (.int .i64 0):=cell_of_row wr _ 2 _ _ (0,0) hR
   have o3:wr.cell? ⟨w.heap.size,3,none⟩=some (.string ⟨#[]⟩):=cell_of_row wr _ 3 _ _ (0,0) hR
   have y0:wr.frozen? ⟨w.heap.size,0,none⟩=false:=frozen_of_row wr _ 0 _ _ hR
   have y1:wr.frozen? ⟨w.heap.size,1,none⟩=false:=frozen_of_row wr _ 1 _ _ hR
   have y2:wr.frozen? ⟨w.heap.size,2,none⟩=false:=frozen_of_row wr _ 2 _ _ hR
   have y3:wr.frozen? ⟨w.heap.size,3,none⟩=false:=frozen_of_row wr _ 3 _ _ hR
   clear hX hR HX HB e1
   go_wp2_with fail
   refine bodyPost_ret (v:=.tuple #[.agg #[.int .i64 a,.int .i64 pr,.int .i64 si,.string ⟨sst.toArray⟩],.bool true]) (by simp [results,Tryz.results116,go_sem,o0,o1,o2,o3]) rfl ⟨rfl,?_⟩
   exact (((HWR.out.setCell (Nat.le_refl _) _).setCell (Nat.le_refl _) _).setCell (Nat.le_refl _) _).setCell (Nat.le_refl _) _

theorem bvalue_no {w:World} {v:Value} (hv:Sess w v []) :
  Calls Tryz.prog 116 #[v] w fun e w' => e=.returned (.tuple #[.agg #[.int .i64 0,.int .i64 0,.int .i64 0,.string ⟨#[]⟩],.bool false])∧Below w.heap.size w w':=by
 have hb1:=bl_newZ w (.cells #[.int .i64 0,.int .i64 0,.int .i64 0,.string ⟨#[]⟩] 30)
 have HBe:=hD (best_no (hv.later hb1))
 have x0:=cellsAt_made (w:=w) (cs:=#[.int .i64 0,.int .i64 0,.int .i64 0,.string ⟨#[]⟩]) (vs:=[.int .i64 0,.int .i64 0,.int .i64 0,.string ⟨#[]⟩]) rfl 30 rfl
 obtain⟨ao,cap,rfl,hm⟩:=hv.open'
 simp only [List.length_nil] at HBe
 clear hv hm
 simp only [List.length_nil]
 go_enter Tryz.func116,Tryz.ntmps116
 go_wp2_with fail
 refine HBe.out.mono ?_
 rintro e w2 ⟨rfl,b2⟩
 have hR:w2.heap[w.heap.size]?=some (.cells #[.int .i64 0,.int .i64 0,.int .i64 0,.string ⟨#[]⟩] 30 (0,0)):=(b2.block _ (by rw [World.size_alloc]; omega)).trans (heap_alloc_new w _)
 have o0:w2.cell? ⟨w.heap.size,0,none⟩=some (.int .i64 0):=cell_of_row w2 _ 0 _ _ (0,0) hR
 have o1:w2.cell? ⟨w.heap.size,1,none⟩=some (.int .i64 0):=cell_of_row w2 _ 1 _ _ (0,0) hR
 have o2:w2.cell? ⟨w.heap.size,2,none⟩=some (.int .i64 0):=cell_of_row w2 _ 2 _ _ (0,0) hR
 have o3:w2.cell? ⟨w.heap.size,3,none⟩=some (.string ⟨#[]⟩):=cell_of_row w2 _ 3 _ _ (0,0) hR
 have y0:w2.frozen? ⟨w.heap.size,0,none⟩=false:=frozen_of_row w2 _ 0 _ _ hR
 have y1:w2.frozen? ⟨w.heap.size,1,none⟩=false:=frozen_of_row w2 _ 1 _ _ hR
 have y2:w2.frozen? ⟨w.heap.size,2,none⟩=false:=frozen_of_row w2 _ 2 _ _ hR
 have y3:w2.frozen? ⟨w.heap.size,3,none⟩=false:=frozen_of_row w2 _ 3 _ _ hR
 have HB2:=hD (below2Z hb1 b2)
 have hs2:w.heap.size < w2.heap.size:=(Array.getElem?_eq_some_iff.1 hR).1
 clear b2 hb1 hR HBe
 go_wp2_with fail
 rw [setCell_id o0,setCell_id o1,setCell_id o2,setCell_id o3]
 have q0:∀ O,(w2.alloc O).cell? ⟨w.heap.size,0,none⟩=some (.int .i64 0):=fun O => (World.cell?_alloc_some w2 _ O (by rw [o0]; rfl)).trans o0
 have q1:∀ O,(w2.alloc O).cell? ⟨w.heap.size,1,none⟩=some (.int .i64 0):=fun O => (World.cell?_alloc_some w2 _ O (by rw [o1]; rfl)).trans o1
 have q2:∀ O,(w2.alloc O).cell? ⟨w.heap.size,2,none⟩=some (.int .i64 0):=fun O => (World.cell?_alloc_some w2 _ O (by rw [o2]; rfl)).trans o2
 have q3:∀ O,(w2.alloc O).cell? ⟨w.heap.size,3,none⟩=some (.string ⟨#[]⟩):=fun O => (World.cell?_alloc_some w2 _ O (by rw [o3]; rfl)).trans o3
 have B3:=hD (below2Z HB2.out (bl_newZ w2 (.cells #[.string ⟨#[]⟩,.int .i64 0,.int .i64 0,.int .i64 0,.int .i64 0,.string ⟨#[]⟩] 122)))
 generalize hW3:w2.alloc (.cells #[.string ⟨#[]⟩,.int .i64 0,.int .i64 0,.int .i64 0,.int .i64 0,.string ⟨#[]⟩] 122)=W3 at B3 ⊢
 have p0:W3.cell? ⟨w.heap.size,0,none⟩=some (.int .i64 0):=by rw [← hW3]; exact q0 _
 have p1:W3.cell? ⟨w.heap.size,1,none⟩=some (.int .i64 0):=by rw [← hW3]; exact q1 _
 have p2:W3.cell? ⟨w.heap.size,2,none⟩=some (.int .i64 0):=by rw [← hW3]; exact q2 _
 have p3:W3.cell? ⟨w.heap.size,3,none⟩=some (.string ⟨#[]⟩):=by rw [← hW3]; exact q3 _
 refine bodyPost_ret (v:=.tuple #[.agg #[.int .i64 0,.int .i64 0,.int .i64 0,.string ⟨#[]⟩],.bool false]) (by simp [results,Tryz.results116,go_sem,p0,p1,p2,p3]) rfl ⟨rfl,B3.out⟩

end Go.Proofs.YtphfinlfabklmaaGreat

end

section

namespace Go.Proofs.YtphfinlfabklmaaGreat
open Go.RowKit

def lvA:Ses:=⟨[97],1,⟨2,5,3,[120]⟩⟩
def lvB:Ses:=⟨[97],0,⟨4,1,9,[]⟩⟩

end Go.Proofs.YtphfinlfabklmaaGreat

end

section

namespace Go.Proofs.YtphfinlfabklmaaGreat
open Go.RowKit

def bestB (l:List Ses):Ses:=if l=[] then Ses.zero else besOf l
def valB (l:List Ses):Val:=if l=[] then Val.zero else besV l
def someB (l:List Ses):Bool:=decide (l ≠ [])

def sesAggB (s:Ses):Value:=.agg #[.string ⟨s.u.toArray⟩,.int .i64 s.id,.int .i64 s.v.sh,.int .i64 s.v.pr,.int .i64 s.v.si,.string ⟨s.v.st.toArray⟩]
def valAggB (v:Val):Value:=.agg #[.int .i64 v.sh,.int .i64 v.pr,.int .i64 v.si,.string ⟨v.st.toArray⟩]

theorem bvalue_any {w:World} {v:Value} {l:List Ses} (hv:Sess w v l) (hf:∀ s ∈ l,SesFit s) {st:List UInt8} {a b c:Int} (hr:valB l=⟨a,b,c,st⟩) {x:Bool} (hx:someB l=x) :
  Calls Tryz.prog 116 #[v] w fun e w' => e=.returned (.tuple #[.agg #[.int .i64 a,.int .i64 b,.int .i64 c,.string ⟨st.toArray⟩],.bool x])∧Below w.heap.size w w':=by
 by_cases h:l=[]
 ·subst h
  unfold valB Val.zero at hr
  rw [if_pos rfl,Val.mk.injEq] at hr
  obtain⟨rfl,rfl,rfl,rfl⟩:=hr
  obtain rfl:false=x:=by rw [← hx]; rfl
  exact bvalue_no hv
 ·unfold valB at hr
  rw [if_neg h] at hr
  obtain rfl:true=x:=by rw [← hx]; unfold someB; simp [h]
  exact bvalue_yes hv hf (List.length_pos_iff.2 h) hr

end Go.Proofs.YtphfinlfabklmaaGreat

end

section

namespace Go.Proofs.YtphfinlfabklmaaGreat
open Go.RowKit

def rowVals (r:Row):List Value:=[.string ⟨r.c.toArray⟩,.int .i64 r.v.sh,.int .i64 r.v.pr,.int .i64 r.v.si,.string ⟨r.v.st.toArray⟩]

def Cells5 (w:World) (b o:Nat) (r:Row):Prop :=
 w.cell? ⟨b,o,none⟩=some (.string ⟨r.c.toArray⟩)∧w.cell? ⟨b,o+1,none⟩=some (.int .i64 r.v.sh)∧w.cell? ⟨b,o+2,none⟩=some (.int .i64 r.v.pr) ∧
  w.cell? ⟨b,o+3,none⟩=some (.int .i64 r.v.si)∧w.cell? ⟨b,o+4,none⟩=some (.string ⟨r.v.st.toArray⟩)

theorem Cells5.later {w w':World} {b o:Nat} {r:Row} (h:Cells5 w b o r) (hb:Below w.heap.size w w') (hlt:b < w.heap.size):Cells5 w' b o r:=by
 obtain⟨h0,h1,h2,h3,h4⟩:=h
 have k:∀ o,w'.cell? ⟨b,o,none⟩=w.cell? ⟨b,o,none⟩:=fun o => hb.cell (p:=⟨b,o,none⟩) hlt
 exact⟨(k _).trans h0,(k _).trans h1,(k _).trans h2,(k _).trans h3,(k _).trans h4⟩

def Tab (w:World) (v:Value) (t:List Row):Prop :=
 ∃ a cap,v=.slice a t.length cap∧t.length≤cap∧cap≤maxLen∧(a=none→cap=0) ∧
  (t=[]∨∃ b off,a=some ⟨b,off,none⟩∧b < w.heap.size∧∀ i,i < t.length→Cells5 w b (off+i * 5) (t.getD i Row.zero))

theorem Tab.later {w w':World} {v:Value} {t:List Row} (h:Tab w v t) (hb:Below w.heap.size w w'):Tab w' v t:=by
 obtain⟨a,cap,h1,h2,h3,h4,h5⟩:=h
 refine ⟨a,cap,h1,h2,h3,h4,?_⟩
 rcases h5 with h5 | ⟨b,off,e,hlt,hc⟩
 ·exact .inl h5
 ·exact .inr ⟨b,off,e,Nat.lt_of_lt_of_le hlt hb.size,fun i hi => (hc i hi).later hb hlt⟩

theorem tab_nil (w:World):Tab w (.slice none 0 0) []:=⟨none,0,rfl,by simp,by simp,fun _ => rfl,.inl rfl⟩

theorem Tab.row {w wr:World} {a:Option Addr} {n cap:Nat} {t:List Row} (h:Tab w (.slice a n cap) t) (hb:Below w.heap.size w wr) (k:Nat) (hk:k < t.length) :
  ∃ b off,a=some ⟨b,off,none⟩∧Cells5 wr b (off+k * 5) (t.getD k Row.zero):=by
 obtain⟨a',cap',e,_,_,_,h⟩:=h.later hb
 simp only [Value.slice.injEq] at e
 rcases h with h | ⟨b,off,e',_,hc⟩
 ·rw [h] at hk; simp at hk
 ·exact⟨b,off,e.1.trans e',hc k hk⟩

theorem Tab.open' {w:World} {v:Value} {t:List Row} (h:Tab w v t):∃ a cap,v=.slice a t.length cap∧t.length≤9223372036854775807:=by
 obtain⟨a,cap,e,h1,h2,_⟩:=h
 unfold maxLen at h2
 exact⟨a,cap,e,by omega⟩

def Short (t:List Row):Prop:=∀ r ∈ t,r.c.length≤4294967296∧r.v.st.length≤4294967296

theorem Short.get {t:List Row} (h:Short t) {k:Nat} (hk:k < t.length):(t.getD k Row.zero).c.length≤4294967296∧(t.getD k Row.zero).v.st.length≤4294967296:=by
 rw [← row_get hk]
 exact h _ (List.getElem_mem hk)

/-! ### '==' -/

theorem val_eqIn (d:Nat) (a b c a' b' c':Int) (s s':List UInt8) (w:World) :
  (Op.equalIn (d+1+1) 30 (.agg #[.int .i64 a,.int .i64 b,.int .i64 c,.string ⟨s.toArray⟩]) (.agg #[.int .i64 a',.int .i64 b',.int .i64 c',.string ⟨s'.toArray⟩])).run Tryz.prog w=.ok (vSame ⟨a,b,c,s⟩ ⟨a',b',c',s'⟩) w:=by
 have hS:Tryz.prog.underlying 30=some (.struct (Tryz.prog.fieldsOf 30)):=by kernel_rfl
 have hp:Tryz.prog.stoodInHeld 30=false:=by kernel_rfl
 have u3:=Tryz.underlying3
 have u9:=Tryz.underlying9
 have a3:=Tryz.isAgg3
 have z3:=Tryz.sizeOf3
 have a9:=Tryz.isAgg9
 have z9:=Tryz.sizeOf9
 rw [run_equalIn_agg w (d+1) 30 _ _ hS hp]
 simp only [Program.fieldsOf,Tryz.underlying30]
 go_simp
 unfold vSame
 by_cases h1:a=a' <;> by_cases h2:b=b' <;> by_cases h3:c=c' <;> by_cases h4:s=s' <;> simp [h1,h2,h3,h4]

theorem val_eql5 (a b c a' b' c':Int) (s s':List UInt8) (w:World) :
  (binOp .eql 30 (.agg #[.int .i64 a,.int .i64 b,.int .i64 c,.string ⟨s.toArray⟩]) (.agg #[.int .i64 a',.int .i64 b',.int .i64 c',.string ⟨s'.toArray⟩])).run Tryz.prog w=.ok (.bool (vSame ⟨a,b,c,s⟩ ⟨a',b',c',s'⟩)) w:=by
 rw [run_eql_struct,show (10000:Nat)=9998+1+1 from rfl,val_eqIn 9998]
 rfl

theorem row_eqIn (d:Nat) (k k':List UInt8) (a b c a' b' c':Int) (s s':List UInt8) (w:World) :
  (Op.equalIn (d+1+1+1) 45 (.agg #[.string ⟨k.toArray⟩,.int .i64 a,.int .i64 b,.int .i64 c,.string ⟨s.toArray⟩]) (.agg #[.string ⟨k'.toArray⟩,.int .i64 a',.int .i64 b',.int .i64 c',.string ⟨s'.toArray⟩])).run Tryz.prog w=.ok (rSame ⟨k,a,b,c,s⟩ ⟨k',a',b',c',s'⟩) w:=by
 have hS:Tryz.prog.underlying 45=some (.struct (Tryz.prog.fieldsOf 45)):=by kernel_rfl
 have hp:Tryz.prog.stoodInHeld 45=false:=by kernel_rfl
 have u9:=Tryz.underlying9
 have a9:=Tryz.isAgg9
 have z9:=Tryz.sizeOf9
 have a35:=Tryz.isAgg30
 have z35:=Tryz.sizeOf30
 have hv:=fun w => val_eqIn d a b c a' b' c' s s' w
 rw [run_equalIn_agg w (d+1+1) 45 _ _ hS hp]
 simp only [Program.fieldsOf,Tryz.underlying45]
 clear hS hp
 go_simp
 unfold rSame
 by_cases hk:k=k'
 ·subst hk
  cases vSame ⟨a,b,c,s⟩ ⟨a',b',c',s'⟩ <;> simp
 ·have:(k == k')=false:=by simpa using hk
  rw [if_neg hk]
  simp [this]

theorem row_eql5 (k k':List UInt8) (a b c a' b' c':Int) (s s':List UInt8) (w:World) :
  (binOp .eql 45 (.agg #[.string ⟨k.toArray⟩,.int .i64 a,.int .i64 b,.int .i64 c,.string ⟨s.toArray⟩]) (.agg #[.string ⟨k'.toArray⟩,.int .i64 a',.int .i64 b',.int .i64 c',.string ⟨s'.toArray⟩])).run Tryz.prog w=.ok (.bool (rSame ⟨k,a,b,c,s⟩ ⟨k',a',b',c',s'⟩)) w:=by
 rw [run_eql_struct,show (10000:Nat)=9997+1+1+1 from rfl,row_eqIn 9997]
 rfl

theorem row_neq5 (k k':List UInt8) (a b c a' b' c':Int) (s s':List UInt8) (w:World) :
  (binOp .neq 45 (.agg #[.string ⟨k.toArray⟩,.int .i64 a,.int .i64 b,.int .i64 c,.string ⟨s.toArray⟩]) (.agg #[.string ⟨k'.toArray⟩,.int .i64 a',.int .i64 b',.int .i64 c',.string ⟨s'.toArray⟩])).run Tryz.prog w=.ok (.bool (!rSame ⟨k,a,b,c,s⟩ ⟨k',a',b',c',s'⟩)) w:=by
 rw [run_neq_struct,show (10000:Nat)=9997+1+1+1 from rfl,row_eqIn 9997]
 rfl

theorem chg_eqIn (d:Nat) (k k':List UInt8) (o o':Bool) (a b c a' b' c':Int) (s s':List UInt8) (w:World) :
  (Op.equalIn (d+1+1+1) 57 (.agg #[.string ⟨k.toArray⟩,.bool o,.int .i64 a,.int .i64 b,.int .i64 c,.string ⟨s.toArray⟩]) (.agg #[.string ⟨k'.toArray⟩,.bool o',.int .i64 a',.int .i64 b',.int .i64 c',.string ⟨s'.toArray⟩])).run Tryz.prog w=.ok (cSame ⟨k,o,a,b,c,s⟩ ⟨k',o',a',b',c',s'⟩) w:=by
 have hS:Tryz.prog.underlying 57=some (.struct (Tryz.prog.fieldsOf 57)):=by kernel_rfl
 have hp:Tryz.prog.stoodInHeld 57=false:=by kernel_rfl
 have u4:=Tryz.underlying4
 have a4:=Tryz.isAgg4
 have z4:=Tryz.sizeOf4
 have u9:=Tryz.underlying9
 have a9:=Tryz.isAgg9
 have z9:=Tryz.sizeOf9
 have a35:=Tryz.isAgg30
 have z35:=Tryz.sizeOf30
 have hv:=fun w => val_eqIn d a b c a' b' c' s s' w
 rw [run_equalIn_agg w (d+1+1) 57 _ _ hS hp]
 simp only [Program.fieldsOf,Tryz.underlying57]
 clear hS hp
 go_simp
 unfold cSame
 by_cases hk:k=k'
 ·subst hk
  cases o <;> cases o' <;> cases vSame ⟨a,b,c,s⟩ ⟨a',b',c',s'⟩ <;> simp
 ·have:(k == k')=false:=by simpa using hk
  rw [if_neg hk]
  simp [this]

theorem chg_neq6 (k k':List UInt8) (o o':Bool) (a b c a' b' c':Int) (s s':List UInt8) (w:World) :
  (binOp .neq 57 (.agg #[.string ⟨k.toArray⟩,.bool o,.int .i64 a,.int .i64 b,.int .i64 c,.string ⟨s.toArray⟩]) (.agg #[.string ⟨k'.toArray⟩,.bool o',.int .i64 a',.int .i64 b',.int .i64 c',.string ⟨s'.toArray⟩])).run Tryz.prog w=.ok (.bool (!cSame ⟨k,o,a,b,c,s⟩ ⟨k',o',a',b',c',s'⟩)) w:=by
 rw [run_neq_struct,show (10000:Nat)=9997+1+1+1 from rfl,chg_eqIn 9997]
 rfl

/-! ### Few -/

def fewT (t:List Row):Bool:=decide (t.length≤40) && t.all fun r => decide (r.c.length≤60) && decide (r.v.st.length≤100)

/-! ### Two tables -/

theorem tSame_next {t u:List Row} {k:Nat} (h:(List.range k).all (fun i => rSame (t.getD i Row.zero) (u.getD i Row.zero))=true) (hk:rSame (t.getD k Row.zero) (u.getD k Row.zero)=true) :
  (List.range (k+1)).all (fun i => rSame (t.getD i Row.zero) (u.getD i Row.zero))=true:=range_all_succ h hk

theorem tsame_any {w:World} {v u:Value} {t s:List Row} (hv:Tab w v t) (hu:Tab w u s) :
  Calls Tryz.prog 17 #[v,u] w fun e w' => e=.returned (.bool (tSame t s))∧Below w.heap.size w w':=by
 have HV:=hD hv
 have HU:=hD hu
 obtain⟨a,cap,rfl,hm⟩:=hv.open'
 obtain⟨a2,cap2,rfl,hm2⟩:=hu.open'
 clear hv hu
 by_cases hl:t.length=s.length
 ·have HL:=hD hl
  have t1:((t.length:Int) != (s.length:Int))=false:=by simp [hl]
  clear hl
  go_enter Tryz.func17,Tryz.ntmps17
  go_wp2_with fail
  go_loopw [5] (fun i wr => ∃ k:Nat,k≤t.length∧i=.int .i64 k∧Hid (Below w.heap.size w wr)∧Hid ((List.range k).all (fun i => rSame (t.getD i Row.zero) (s.getD i Row.zero))=true)) (fun i _ => t.length - (intOf i).toNat)
  case atStart => exact⟨0,by omega,rfl,Below.refl _ _,by show _=_; simp⟩
  case round =>
   obtain⟨k,hk,rfl,HN,HA⟩:=hrel
   by_cases hlt:k < t.length
   ·obtain⟨b,off,rfl,h0,h1,h2,h3,h4⟩:=HV.out.row HN.out k hlt
    obtain⟨b2,off2,rfl,i0,i1,i2,i3,i4⟩:=HU.out.row HN.out k (by rw [← HL.out]; exact hlt)
    have hlt2:k < s.length:=by rw [← HL.out]; exact hlt
    obtain⟨⟨c,⟨x,y,z,st⟩⟩,hr⟩ : ∃ r,t.getD k Row.zero=r:=⟨_,rfl⟩
    obtain⟨⟨c',⟨x',y',z',st'⟩⟩,hr'⟩ : ∃ r,s.getD k Row.zero=r:=⟨_,rfl⟩
    rw [hr] at h0 h1 h2 h3 h4
    rw [hr'] at i0 i1 i2 i3 i4
    have hgd:Tryz.prog.eqGuardType Tryz.prog.depth 45=false:=by kernel_rfl
    have hne:=row_neq5 c c' x y z x' y' z' st st'
    cases hs:rSame ⟨c,x,y,z,st⟩ ⟨c',x',y',z',st'⟩ with
    | false =>
     have HR:Hid (tSame t s=false):=by show _=_; exact tSame_off hlt (by rw [hr,hr']; exact hs)
     rw [hs] at hne
     simp only at h0 h1 h2 h3 h4 i0 i1 i2 i3 i4
     clear hr hr' hs
     go_wp2_with fail
     go_region
     go_wp2_with fail
     go_ret
     exact⟨by rw [HR.out]; rfl,HN.out.drew⟩
    | true =>
     have HA2:Hid ((List.range (k+1)).all (fun i => rSame (t.getD i Row.zero) (s.getD i Row.zero))=true):=by show _=_; exact tSame_next HA.out (by rw [hr,hr']; exact hs)
     rw [hs] at hne
     simp only at h0 h1 h2 h3 h4 i0 i1 i2 i3 i4
     clear hr hr' hs
     go_wp2_with fail
     go_region
     go_wp2_with fail
     go_roundw
     case rel => exact⟨k+1,by omega,by go_num,HN.out.drew,HA2⟩
     case measure => simp [intOf]; omega
   ·obtain rfl:k=t.length:=by omega
    have HR:Hid (tSame t s=true):=by show _=_; exact tSame_on HL.out HA.out
    go_wp2_with fail
    go_ret
    exact⟨by rw [HR.out]; rfl,HN.out⟩
 ·have HR:=hD (tSame_len hl)
  have t1:((t.length:Int) != (s.length:Int))=true:=by simp; omega
  clear hl
  go_enter Tryz.func17,Tryz.ntmps17
  go_wp2_with fail
  go_ret
  exact⟨by rw [HR.out]; rfl,Below.refl _ _⟩

theorem tsame_eq {w:World} {v u:Value} {t s:List Row} (hv:Tab w v t) (hu:Tab w u s) {r:Bool} (h:Hid (tSame t s=r)) :
  Calls Tryz.prog 17 #[v,u] w fun e w' => e=.returned (.bool r)∧Below w.heap.size w w':=by
 have:=tsame_any hv hu
 rwa [h.out] at this

end Go.Proofs.YtphfinlfabklmaaGreat

end
