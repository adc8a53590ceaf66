/-
 TEXTS OF THE PROOF, one behind the other: StaMem, RosPair, RosRise, RosOver, RosPairP, RosPairE, RosMayC, IdRow, RosOf, EntWith.
-/
import Derived.Test.YtphfinlfabklmaaGreatB01
import Derived.Test.YtphfinlfabklmaaGreatB11
import Derived.Test.YtphfinlfabklmaaGreatB12
import Derived.Test.YtphfinlfabklmaaGreatProg
import Derived.Laws.AppendOwnNone
import Derived.Laws.OwnMore

set_option maxHeartbeats 12800000
set_option maxRecDepth 100000

section

namespace Go.Proofs.YtphfinlfabklmaaGreat
open Go.ChangeShapes Go.WideShapes Go.ChangeAt Go.RowKit Go.Deep

def evVals (e:Ev):List Value:=[.int .i64 e.k,.string ⟨e.u.toArray⟩,.string ⟨e.o.toArray⟩,.int .i64 e.id,.int .i64 e.v.sh,.int .i64 e.v.pr,.int .i64 e.v.si,.string ⟨e.v.st.toArray⟩]

def evFit (e:Ev):Prop:=(Lit.int .i64 e.k).wf=true∧(Lit.int .i64 e.id).wf=true∧ValFit e.v

theorem evOK:RowOK Tryz.prog evVals 8 Ev.zero 50 59 (.agg #[.int .i64 0,.string ⟨#[]⟩,.string ⟨#[]⟩,.int .i64 0,.int .i64 0,.int .i64 0,.int .i64 0,.string ⟨#[]⟩]) 88 where
 len _:=rfl
 one a u hu:=by
  simp only [evVals,List.mem_cons,List.not_mem_nil,or_false] at hu
  rcases hu with rfl | rfl | rfl | rfl | rfl | rfl | rfl | rfl <;> rfl
 pos:=by decide
 small:=by decide
 under:=Tryz.underlying59
 info:=by kernel_rfl
 zvals:=rfl
 fits:=by decide

def Evs (w:World) (v:Value) (l:List Ev):Prop:=RdS evVals 8 Ev.zero w v l

theorem Evs.later {w w':World} {v:Value} {l:List Ev} (h:Evs w v l) (hb:Below w.heap.size w w'):Evs w' v l:=RdS.later h hb

def StAt (w:World) (x y:Value) (t:Sta):Prop:=Ents w x t.e∧Sess w y t.s

theorem StAt.later {w w':World} {x y:Value} {t:Sta} (h:StAt w x y t) (hb:Below w.heap.size w w'):StAt w' x y t:=⟨h.1.later hb,h.2.later hb⟩

section
variable {H:Type} {enc:TypeId × Value→H} {w:World} {base:Nat} {spare:Nat→Bool} {held:Bool}

theorem rdS_trod {α:Type} {P:Program} {vals:α→List Value} {sz:Nat} {zero:α} {T S:TypeId} {Z:Value} {bytes:Nat} (D:RowOK P vals sz zero T S Z bytes) (hcells:P.cellsOf T=sz)
  {ok:α→Prop} (helem:∀ fuel cs x,DataW.trod enc P w base spare held fuel T cs=some x→∃ r,cs=vals r∧ok r)
  {fuel:Nat} {cs:List Value} {z:DataW H × List MemPlace} (hf:DataW.trod enc P w base spare held fuel S cs=some z) :
  ∃ v,cs=[v]∧∃ t:List α,RdS vals sz zero w v t∧∀ r ∈ t,ok r:=by
 rcases open_slice D.under hf with ⟨hcs,_⟩ | ⟨x,len,cap,m,n,D',Pl,hcs,_,hl,hm,hmm,_,hi⟩
 ·exact⟨_,hcs,[],rdS_nil w,by simp⟩
 ·refine ⟨_,hcs,?_⟩
  have hlm:len≤m:=by rw [hmm]; split <;> omega
  rw [hcells] at hi
  obtain⟨t,htl,ht⟩:=choose_S zero (n:=len) (Q:=fun i r => (∀ j u,(vals r)[j]?=some u→w.cell? ((x.add (i * sz)).add j)=some u)∧ok r) (fun i hil => by
   obtain⟨cs',hc,htr⟩:=hi i (by omega)
   obtain⟨_,hcl,hat⟩:=World.cells?_some hc
   obtain⟨r,rfl,w1⟩:=helem _ _ _ htr
   refine ⟨r,fun j u hu => ?_,w1⟩
   have hj:j < sz:=by have:=(List.getElem?_eq_some_iff.1 hu).1; rwa [D.len] at this
   rw [hat j hj,hu])
  refine ⟨t,⟨some x,cap,by rw [htl],by omega,by omega,(fun e => by cases e),?_⟩,fun r hr => ?_⟩
  ·by_cases h0:len=0
   ·exact .inl (List.length_eq_zero_iff.1 (by omega))
   ·obtain⟨b,off,spot⟩:=x
    have hne:0 < (vals (t.getD 0 zero)).length:=by rw [D.len]; exact D.pos
    have hc:=(ht 0 (by omega)).1 0 _ (List.getElem?_eq_getElem hne)
    have hspot:spot=none:=by simpa [Addr.add] using World.cell?_spot hc
    subst hspot
    refine .inr ⟨b,off,rfl,?_,fun i hil => fun j u hu => ?_⟩
    ·have:=World.block_lt_of_cell? w _ hc
     simpa [Addr.add] using this
    ·have:=(ht i (by omega)).1 j u hu
     rwa [Addr.add_lit,Addr.add_lit] at this
  ·obtain⟨i,hil,rfl⟩:=List.getElem_of_mem hr
   have:=(ht i (by omega)).2
   rwa [List.getD_eq_getElem?_getD,List.getElem?_eq_getElem hil] at this

theorem list2T {α:Type} {l:List α} (h:l.length=2):∃ a b,l=[a,b]:=by
 match l,h with
 | [a,b],_ => exact⟨a,b,rfl⟩

theorem list8T {α:Type} {l:List α} (h:l.length=8):∃ a b c d e f g i,l=[a,b,c,d,e,f,g,i]:=by
 match l,h with
 | [a,b,c,d,e,f,g,i],_ => exact⟨a,b,c,d,e,f,g,i,rfl⟩

theorem open_sta {r:Reach} {b0:Nat} {v:Value} {d:DataW H} {p:List MemPlace} (hv:Value.okWide Tryz.prog w r b0 25 v) (h:DataW.Trod enc Tryz.prog w base spare held 25 v d p) :
  ∃ x y t,v=.agg #[x,y]∧StAt w x y t∧∀ s ∈ t.s,SesFit s:=by
 obtain⟨cs,rfl,_⟩:=okWide_struct Tryz.underlying25 hv
 obtain⟨fuel,hf0⟩:=h
 obtain⟨xs,n,_,_,hl,hx,hf⟩:=DataW.trod_struct Tryz.underlying25 hf0
 have c2:Tryz.prog.cellsOf 25=2:=by kernel_rfl
 have c1:Tryz.prog.cellsOf 22=1:=by kernel_rfl
 have c9:Tryz.prog.cellsOf 23=1:=by kernel_rfl
 rw [c2] at hl
 obtain⟨a,b,hab⟩:=list2T hl
 rw [hab] at hf
 have get:∀ i,i < 2→xs[i]?=some (xs.getD i (.nil,[])):=fun i hi => by
  have:i < xs.length:=by rw [hx]; exact hi
  simp [List.getD,List.getElem?_eq_getElem this]
 have f0:DataW.trod enc Tryz.prog w base spare held n 22 (([a,b].drop 0).take (Tryz.prog.cellsOf 22))=some (xs.getD 0 (.nil,[])):=(hf 0 _ rfl).trans (get 0 (by omega))
 have f1:DataW.trod enc Tryz.prog w base spare held n 23 (([a,b].drop 1).take (Tryz.prog.cellsOf 23))=some (xs.getD 1 (.nil,[])):=(hf 1 _ rfl).trans (get 1 (by omega))
 rw [c1] at f0
 rw [c9] at f1
 simp only [List.drop_succ_cons,List.drop_zero,List.take_succ_cons,List.take_zero] at f0 f1
 obtain⟨x,hx0,le,hle,_⟩:=rdS_trod (ok:=fun _ => True) entOK (by kernel_rfl) trod_entR f0
 obtain⟨y,hy0,ls,hls,hfit⟩:=rdS_trod (ok:=SesFit) sesOK (by kernel_rfl) trod_sesB f1
 simp only [List.cons.injEq,and_true] at hx0 hy0
 subst hx0 hy0
 refine ⟨a,b,⟨le,ls⟩,?_,⟨hle.ents,hls⟩,hfit⟩
 obtain⟨l⟩:=cs
 simp only [Value.cells] at hab
 rw [hab]

theorem trod_ev (fuel:Nat) (cs:List Value) (x:DataW H × List MemPlace) (h:DataW.trod enc Tryz.prog w base spare held fuel 50 cs=some x) :
  ∃ e:Ev,cs=evVals e∧evFit e:=by
 obtain⟨xs,n,_,_,hl,hx,hf⟩:=DataW.trod_struct Tryz.underlying50 h
 have c8:Tryz.prog.cellsOf 50=8:=by kernel_rfl
 have c4:Tryz.prog.cellsOf 30=4:=by kernel_rfl
 have c1:Tryz.prog.cellsOf 3=1:=by kernel_rfl
 have c0:Tryz.prog.cellsOf 9=1:=by kernel_rfl
 rw [c8] at hl
 obtain⟨a,b,c,d,e,f,g,i,rfl⟩:=list8T hl
 have get:∀ i,i < 5→xs[i]?=some (xs.getD i (.nil,[])):=fun i hi => by
  have:i < xs.length:=by rw [hx]; exact hi
  simp [List.getD,List.getElem?_eq_getElem this]
 have f0:DataW.trod enc Tryz.prog w base spare held n 3 (([a,b,c,d,e,f,g,i].drop 0).take (Tryz.prog.cellsOf 3))=some (xs.getD 0 (.nil,[])):=(hf 0 _ rfl).trans (get 0 (by omega))
 have f1:DataW.trod enc Tryz.prog w base spare held n 9 (([a,b,c,d,e,f,g,i].drop 1).take (Tryz.prog.cellsOf 9))=some (xs.getD 1 (.nil,[])):=(hf 1 _ rfl).trans (get 1 (by omega))
 have f2:DataW.trod enc Tryz.prog w base spare held n 9 (([a,b,c,d,e,f,g,i].drop 2).take (Tryz.prog.cellsOf 9))=some (xs.getD 2 (.nil,[])):=(hf 2 _ rfl).trans (get 2 (by omega))
 have f3:DataW.trod enc Tryz.prog w base spare held n 3 (([a,b,c,d,e,f,g,i].drop 3).take (Tryz.prog.cellsOf 3))=some (xs.getD 3 (.nil,[])):=(hf 3 _ rfl).trans (get 3 (by omega))
 have f4:DataW.trod enc Tryz.prog w base spare held n 30 (([a,b,c,d,e,f,g,i].drop 4).take (Tryz.prog.cellsOf 30))=some (xs.getD 4 (.nil,[])):=(hf 4 _ rfl).trans (get 4 (by omega))
 rw [c1] at f0 f3
 rw [c0] at f1 f2
 rw [c4] at f4
 obtain⟨z0,e0,w0⟩:=trod_intB f0
 obtain⟨u1,e1⟩:=trod_textB f1
 obtain⟨u2,e2⟩:=trod_textB f2
 obtain⟨z3,e3,w3⟩:=trod_intB f3
 obtain⟨v4,e4,w4⟩:=trod_valB f4
 simp at e0 e1 e2 e3 e4
 obtain⟨rfl,rfl,rfl,rfl⟩:=e4
 subst e0 e1 e2 e3
 exact⟨⟨z0,u1,u2,z3,v4⟩,rfl,w0,w3,w4⟩

theorem open_evs {r:Reach} {b0:Nat} {v:Value} {d:DataW H} {p:List MemPlace} (hv:Value.okWide Tryz.prog w r b0 59 v) (h:DataW.Trod enc Tryz.prog w base spare held 59 v d p) :
  ∃ l:List Ev,Evs w v l∧∀ e ∈ l,evFit e:=open_rdS (ok:=evFit) evOK (by kernel_rfl) trod_ev hv h

theorem open_ev {r:Reach} {b0:Nat} {v:Value} {d:DataW H} {p:List MemPlace} (hv:Value.okWide Tryz.prog w r b0 50 v) (h:DataW.Trod enc Tryz.prog w base spare held 50 v d p) :
  ∃ e:Ev,v=.agg #[.int .i64 e.k,.string ⟨e.u.toArray⟩,.string ⟨e.o.toArray⟩,.int .i64 e.id,.int .i64 e.v.sh,.int .i64 e.v.pr,.int .i64 e.v.si,.string ⟨e.v.st.toArray⟩]∧evFit e:=by
 obtain⟨cs,rfl,_⟩:=okWide_struct Tryz.underlying50 hv
 obtain⟨fuel,hf⟩:=h
 obtain⟨e,hc,w1⟩:=trod_ev _ _ _ hf
 refine ⟨e,?_,w1⟩
 obtain⟨l⟩:=cs
 simp [Value.cells,evVals] at hc
 rw [hc]

end

end Go.Proofs.YtphfinlfabklmaaGreat

end

section

namespace Go.Proofs.YtphfinlfabklmaaGreat
open Go.RowKit

theorem paired_no {w:World} {v:Value} {l:List Ent} (hv:Ents w v l) (hr:Rise l) (eo ec:List UInt8) (x1 x2 x3 x4 x5:Bool) (hno:(l.any fun e => entIs e ⟨ec,eo,⟨false,false,false,false,false⟩⟩)=false) :
  Calls Tryz.prog 183 #[v,.agg #[.string ⟨eo.toArray⟩,.string ⟨ec.toArray⟩,.bool x1,.bool x2,.bool x3,.bool x4,.bool x5]] w fun e w' => e=.returned (.bool false)∧Below w.heap.size w w':=by
 have B0:Hid (Below w.heap.size w (w.alloc (.cells #[.string ⟨eo.toArray⟩,.string ⟨ec.toArray⟩,.bool x1,.bool x2,.bool x3,.bool x4,.bool x5] 126))):=hD ((Below.refl _ _).alloc (Nat.le_refl _) _)
 have HV:=hD (hv.later B0.out)
 have HX:=hD (cells7_made w ⟨eo,ec,⟨x1,x2,x3,x4,x5⟩⟩ 126)
 have HE:=hD (entry_any ec eo)
 obtain⟨a,cap,rfl,hm⟩:=hv.open'
 go_enter Tryz.func183,Tryz.ntmps183
 go_wp2_with fail
 refine (HE.out _).mono ?_
 rintro e w1 ⟨rfl,b1⟩
 go_wp2_with fail
 refine (find_no (HV.out.later b1) hr ec eo false false false false false hno).mono ?_
 rintro e w2 ⟨rfl,b2⟩
 have B2:=hD (below2S B0.out (below2S b1 b2))
 clear b1 b2
 go_wp2_with fail
 go_ret
 refine ⟨rfl,?_⟩
 repeat (first | exact B2.out | refine Below.setCell ?_ (by first | (simp; done) | (simp; omega)) _ | (refine Below.alloc ?_ (by first | exact B2.out.size | (simp; done) | (simp; omega)) _))

theorem paired_yes {w:World} {v:Value} {l:List Ent} (hv:Ents w v l) (hr:Rise l) (eo ec:List UInt8) (x1 x2 x3 x4 x5:Bool) {fo fc:List UInt8} {i1 i2 i3 i4 i5:Bool} (hlt:entPlace l ⟨ec,eo,⟨false,false,false,false,false⟩⟩ < l.length) (he:l.getD (entPlace l ⟨ec,eo,⟨false,false,false,false,false⟩⟩) Ent.zero=⟨fo,fc,⟨i1,i2,i3,i4,i5⟩⟩) (hs:entIs ⟨fo,fc,⟨i1,i2,i3,i4,i5⟩⟩ ⟨ec,eo,⟨false,false,false,false,false⟩⟩=true) :
  Calls Tryz.prog 183 #[v,.agg #[.string ⟨eo.toArray⟩,.string ⟨ec.toArray⟩,.bool x1,.bool x2,.bool x3,.bool x4,.bool x5]] w fun e w' => e=.returned (.bool (suMay ⟨x1,x2,x3,x4,x5⟩ ⟨i1,i2,i3,i4,i5⟩ && !(suEmpty ⟨x1,x2,x3,x4,x5⟩ && suEmpty ⟨i1,i2,i3,i4,i5⟩)))∧Below w.heap.size w w':=by
 have B0:Hid (Below w.heap.size w (w.alloc (.cells #[.string ⟨eo.toArray⟩,.string ⟨ec.toArray⟩,.bool x1,.bool x2,.bool x3,.bool x4,.bool x5] 126))):=hD ((Below.refl _ _).alloc (Nat.le_refl _) _)
 obtain⟨m,hm0⟩ : ∃ m,suMay ⟨x1,x2,x3,x4,x5⟩ ⟨i1,i2,i3,i4,i5⟩=m:=⟨_,rfl⟩
 obtain⟨z,hz0⟩ : ∃ z,suEmpty ⟨x1,x2,x3,x4,x5⟩=z:=⟨_,rfl⟩
 obtain⟨y,hy0⟩ : ∃ y,suEmpty ⟨i1,i2,i3,i4,i5⟩=y:=⟨_,rfl⟩
 rw [hm0,hz0,hy0]
 have HM:=hD (smay_bl _ _ _ _ _ _ _ _ _ _ hm0)
 have HZ:=hD (sempty_eq _ _ _ _ _ hz0)
 have HY:=hD (sempty_eq _ _ _ _ _ hy0)
 clear hm0 hz0 hy0
 have HV:=hD (hv.later B0.out)
 have HX:=hD (cells7_made w ⟨eo,ec,⟨x1,x2,x3,x4,x5⟩⟩ 126)
 have HE:=hD (entry_any ec eo)
 obtain⟨a,cap,rfl,hm⟩:=hv.open'
 cases m <;> cases z
 all_goals
  go_enter Tryz.func183,Tryz.ntmps183
  go_wp2_with fail
  refine (HE.out _).mono ?_
  rintro e w1 ⟨rfl,b1⟩
  go_wp2_with fail
  refine (find_yes (HV.out.later b1) hr ec eo false false false false false hlt he hs).mono ?_
  rintro e w2 ⟨rfl,b2⟩
  have b3:=below2S (below2S b1 b2) ((Below.refl _ _).alloc (Nat.le_refl _) (.cells #[.string ⟨fo.toArray⟩,.string ⟨fc.toArray⟩,.bool i1,.bool i2,.bool i3,.bool i4,.bool i5] 126))
  have B3:=hD (below2S B0.out b3)
  have X3:=hD (HX.out.later b3)
  have Y3:=hD (cells7_made w2 ⟨fo,fc,⟨i1,i2,i3,i4,i5⟩⟩ 126)
  obtain⟨c0,c1,c2,c3,c4,c5,c6⟩:=X3.out
  obtain⟨d0,d1,d2,d3,d4,d5,d6⟩:=Y3.out
  simp only [Nat.zero_add] at c0 c1 c2 c3 c4 c5 c6 d0 d1 d2 d3 d4 d5 d6
  clear b1 b2 b3
  go_wp2_with fail
  refine (HM.out _).mono ?_
  rintro e w4 ⟨rfl,b4⟩
  have B4:=hD (below2S B3.out b4)
  have X4:=hD (X3.out.later b4)
  have Y4:=hD (Y3.out.later b4)
  obtain⟨c0,c1,c2,c3,c4,c5,c6⟩:=X4.out
  obtain⟨d0,d1,d2,d3,d4,d5,d6⟩:=Y4.out
  simp only [Nat.zero_add] at c0 c1 c2 c3 c4 c5 c6 d0 d1 d2 d3 d4 d5 d6
  clear b4
  go_wp2_with fail
 ·go_ret
  exact⟨rfl,B4.out⟩
 ·go_ret
  exact⟨rfl,B4.out⟩
 ·refine (HZ.out _).mono ?_
  rintro e w5 ⟨rfl,b5⟩
  have B5:=hD (below2S B4.out b5)
  clear b5
  go_wp2_with fail
  go_ret
  exact⟨rfl,B5.out⟩
 ·refine (HZ.out _).mono ?_
  rintro e w5 ⟨rfl,b5⟩
  have B5:=hD (below2S B4.out b5)
  obtain⟨d0,d1,d2,d3,d4,d5,d6⟩:=Y4.out.later b5
  simp only [Nat.zero_add] at d0 d1 d2 d3 d4 d5 d6
  clear b5
  go_wp2_with fail
  refine (HY.out _).mono ?_
  rintro e w6 ⟨rfl,b6⟩
  have B6:=hD (below2S B5.out b6)
  clear b6
  go_wp2_with fail
  go_ret
  exact⟨rfl,B6.out⟩

end Go.Proofs.YtphfinlfabklmaaGreat

end

section

namespace Go.Proofs.YtphfinlfabklmaaGreat
open Go.RowKit

def riseAt (l:List Ent) (i:Nat):Bool :=
 idIs (l.getD i Ent.zero).o && (idIs (l.getD i Ent.zero).c && (!decide ((l.getD i Ent.zero).o=(l.getD i Ent.zero).c) && (decide (i=0) || entLt (l.getD (i - 1) Ent.zero) (l.getD i Ent.zero))))

def riseB (l:List Ent):Bool:=(List.range l.length).all (riseAt l)

theorem riseB_off {l:List Ent} {k:Nat} (hk:k < l.length) (h:riseAt l k=false):riseB l=false:=by
 rw [Bool.eq_false_iff]
 intro h'
 unfold riseB at h'
 rw [List.all_eq_true] at h'
 rw [h' k (by simpa using hk)] at h
 cases h

theorem rise_next {l:List Ent} {k:Nat} (h:(List.range k).all (riseAt l)=true) (hk:riseAt l k=true):(List.range (k+1)).all (riseAt l)=true:=by
 rw [List.range_succ,List.all_append,h]
 simp [hk]

theorem riseB_at {l:List Ent} (h:riseB l=true) {k:Nat} (hk:k < l.length):riseAt l k=true:=by
 unfold riseB at h
 rw [List.all_eq_true] at h
 exact h k (by simpa using hk)

theorem riseB_rise {l:List Ent} (h:riseB l=true):Rise l:=by
 have step:∀ k,k+1 < l.length→entLt (l.getD k Ent.zero) (l.getD (k+1) Ent.zero)=true:=by
  intro k hk
  have:=riseB_at h hk
  unfold riseAt at this
  simp only [Bool.and_eq_true,Bool.or_eq_true,decide_eq_true_eq] at this
  rcases this.2.2.2 with h0 | h0
  ·omega
  ·rwa [show k+1 - 1=k by omega] at h0
 have far:∀ d i,i+(d+1) < l.length→entLt (l.getD i Ent.zero) (l.getD (i+(d+1)) Ent.zero)=true:=by
  intro d
  induction d with
  | zero => intro i hi; exact step i hi
  | succ d ih =>
   intro i hi
   exact entLt_trans (ih i (by omega)) (step (i+(d+1)) (by omega))
 refine List.pairwise_iff_getElem.2 fun i j hi hj hij => ?_
 obtain⟨d,rfl⟩ : ∃ d,j=i+(d+1):=⟨j - i - 1,by omega⟩
 have:=far d i hj
 rwa [getD_at hi,getD_at hj] at this

theorem entI_ge {a b:Ent} {n:Int} (h:entI a b=n):decide (0≤n)=!entLt a b:=by
  have hl:=entI_lt a b
  rw [h] at hl
  cases hc:entLt a b with
  | true => rw [hc] at hl; have:n < 0:=by rw [hl]
            simp; omega
  | false => rw [hc] at hl; have:¬ n < 0:=by rw [hl]; decide
             simp; omega

theorem rises_any {w:World} {v:Value} {l:List Ent} (hv:Ents w v l) (hs:ShortE l) :
  Calls Tryz.prog 181 #[v] w fun e w' => e=.returned (.bool (riseB l))∧Below w.heap.size w w':=by
 have HV:=hD hv
 have HS:=hD hs
 obtain⟨a,cap,rfl,hm⟩:=hv.open'
 clear hv hs
 go_enter Tryz.func181,Tryz.ntmps181
 go_wp2_with fail
 go_loopw [7] (fun i wr => ∃ k:Nat,k≤l.length∧i=.int .i64 k∧Hid (Below w.heap.size w wr)∧Hid ((List.range k).all (riseAt l)=true)) (fun i _ => l.length - (intOf i).toNat)
 case atStart => exact⟨0,by omega,rfl,Below.refl _ _,by show _=_; simp⟩
 case round =>
  obtain⟨k,hk,rfl,HB,HA⟩:=hrel
  by_cases hlt:k < l.length
  ·obtain⟨b,off,rfl,h0,h1,h2,h3,h4,h5,h6⟩:=HV.out.row HB.out k hlt
   obtain⟨hl1,hl2⟩:=HS.out.get hlt
   obtain⟨⟨eo,ec,⟨i1,i2,i3,i4,i5⟩⟩,hr⟩ : ∃ r,l.getD k Ent.zero=r:=⟨_,rfl⟩
   rw [hr] at h0 h1 h2 h3 h4 h5 h6 hl1 hl2
   simp only at h0 h1 h2 h3 h4 h5 h6 hl1 hl2
   have B1:=hD (bl_allocS HB.out (.cells #[.string ⟨eo.toArray⟩,.string ⟨ec.toArray⟩,.bool i1,.bool i2,.bool i3,.bool i4,.bool i5] 126))
   have C1:=hD (cells7_made wr ⟨eo,ec,⟨i1,i2,i3,i4,i5⟩⟩ 126)
   cases hi:idIs eo with
   | false =>
    have HR:Hid (riseB l=false):=by show _=_; exact riseB_off hlt (by unfold riseAt; rw [hr]; simp only; simp [hi])
    have HI:=hD (is_eq eo hl1 (r:=false) (hD hi))
    clear hi hr
    go_wp2_with fail
    refine (HI.out _).mono ?_
    rintro e w2 ⟨rfl,b2⟩
    have B2:=hD (below2S B1.out b2)
    clear b2
    go_wp2_with fail
    go_ret
    exact⟨by rw [HR.out]; rfl,B2.out⟩
   | true =>
    have HI:=hD (is_eq eo hl1 (r:=true) (hD hi))
    cases hj:idIs ec with
    | false =>
     have HR:Hid (riseB l=false):=by show _=_; exact riseB_off hlt (by unfold riseAt; rw [hr]; simp only; simp [hi,hj])
     have HJ:=hD (is_eq ec hl2 (r:=false) (hD hj))
     clear hi hj hr
     go_wp2_with fail
     refine (HI.out _).mono ?_
     rintro e w2 ⟨rfl,b2⟩
     have B2:=hD (below2S B1.out b2)
     obtain⟨c0,c1,c2,c3,c4,c5,c6⟩:=C1.out.later b2
     simp only [Nat.zero_add] at c0 c1 c2 c3 c4 c5 c6
     clear b2
     go_wp2_with fail
     refine (HJ.out _).mono ?_
     rintro e w3 ⟨rfl,b3⟩
     have B3:=hD (below2S B2.out b3)
     clear b3 c0 c1 c2 c3 c4 c5 c6
     go_wp2_with fail
     go_ret
     exact⟨by rw [HR.out]; rfl,B3.out⟩
    | true =>
     have HJ:=hD (is_eq ec hl2 (r:=true) (hD hj))
     by_cases hoc:eo=ec
     ·subst hoc
      have HR:Hid (riseB l=false):=by show _=_; exact riseB_off hlt (by unfold riseAt; rw [hr]; simp)
      clear hi hj hr
      go_wp2_with fail
      refine (HI.out _).mono ?_
      rintro e w2 ⟨rfl,b2⟩
      have B2:=hD (below2S B1.out b2)
      have C2:=hD (C1.out.later b2)
      obtain⟨c0,c1,c2,c3,c4,c5,c6⟩:=C2.out
      simp only [Nat.zero_add] at c0 c1 c2 c3 c4 c5 c6
      have HB2:=hD b2
      clear b2
      go_wp2_with fail
      refine (HJ.out _).mono ?_
      rintro e w3 ⟨rfl,b3⟩
      have B3:=hD (below2S B2.out b3)
      have C3:=hD (C2.out.later b3)
      have HB3:=hD b3
      clear b3 c0 c1 c2 c3 c4 c5 c6
      obtain⟨c0,c1,c2,c3,c4,c5,c6⟩:=C3.out
      simp only [Nat.zero_add] at c0 c1 c2 c3 c4 c5 c6
      go_wp2_with fail
      go_ret
      exact⟨by rw [HR.out]; rfl,B3.out⟩
     ·have toc:(eo == ec)=false:=by rw [beq_eq_false_iff_ne]; exact hoc
      rcases Nat.eq_zero_or_pos k with rfl | hpos
      ·have HA2:Hid ((List.range (0+1)).all (riseAt l)=true):=by show _=_; exact rise_next HA.out (by unfold riseAt; rw [hr]; simp [hi,hj,hoc])
       clear hi hj hr hoc
       simp only [Nat.zero_mul,Nat.add_zero] at h0 h1 h2 h3 h4 h5 h6
       go_wp2_with fail
       refine (HI.out _).mono ?_
       rintro e w2 ⟨rfl,b2⟩
       have B2:=hD (below2S B1.out b2)
       have C2:=hD (C1.out.later b2)
       obtain⟨c0,c1,c2,c3,c4,c5,c6⟩:=C2.out
       simp only [Nat.zero_add] at c0 c1 c2 c3 c4 c5 c6
       have HB2:=hD b2
       clear b2
       go_wp2_with fail
       refine (HJ.out _).mono ?_
       rintro e w3 ⟨rfl,b3⟩
       have B3:=hD (below2S B2.out b3)
       have C3:=hD (C2.out.later b3)
       have HB3:=hD b3
       clear b3 c0 c1 c2 c3 c4 c5 c6
       obtain⟨c0,c1,c2,c3,c4,c5,c6⟩:=C3.out
       simp only [Nat.zero_add] at c0 c1 c2 c3 c4 c5 c6
       go_wp2_with fail
       have q0:=cell_regrown c0
       have q1:=cell_regrown c1
       have q2:=cell_regrown c2
       have q3:=cell_regrown c3
       have q4:=cell_regrown c4
       have q5:=cell_regrown c5
       have q6:=cell_regrown c6
       clear c0 c1 c2 c3 c4 c5 c6
       refine wp_region_quiet_below (by kernel_rfl) (by kernel_rfl) ?_
       repeat (go_big_quiet_step (fail))
       refine wpQuiet_nil ?_
       intro w5 hw5
       have B5:=hD (below2S B3.out (regrown_belowP hw5))
       clear hw5 q0 q1 q2 q3 q4 q5 q6
       go_wp2_with fail
       go_roundw
       case rel => exact⟨1,by omega,by go_num,B5,HA2⟩
       case measure => simp [intOf]; omega
      ·obtain⟨j,rfl⟩ : ∃ j,k=j+1:=⟨k - 1,by omega⟩
       obtain⟨b2,off2,e2,hP⟩:=HV.out.row HB.out j (by omega)
       injection e2 with e2
       injection e2 with e3 e4 _
       subst e3 e4
       obtain⟨⟨po,pc,⟨j1,j2,j3,j4,j5⟩⟩,hr2⟩ : ∃ r,l.getD j Ent.zero=r:=⟨_,rfl⟩
       rw [hr2] at hP
       have HP:=hD hP
       have HCmp:=hD (rcompare_any po pc eo ec j1 j2 j3 j4 j5 i1 i2 i3 i4 i5)
       obtain⟨n,hn⟩ : ∃ n,entI ⟨po,pc,⟨j1,j2,j3,j4,j5⟩⟩ ⟨eo,ec,⟨i1,i2,i3,i4,i5⟩⟩=n:=⟨_,rfl⟩
       have hge:=entI_ge hn
       rw [hn] at HCmp
       clear hn hP
       cases hc:entLt ⟨po,pc,⟨j1,j2,j3,j4,j5⟩⟩ ⟨eo,ec,⟨i1,i2,i3,i4,i5⟩⟩ with
       | true =>
        rw [hc] at hge
        simp only [Bool.not_true] at hge
        have HA2:Hid ((List.range (j+1+1)).all (riseAt l)=true):=by show _=_; exact rise_next HA.out (by unfold riseAt; rw [hr,show j+1 - 1=j by omega,hr2]; simp [hi,hj,hoc,hc])
        clear hi hj hr hoc hr2 hc
        go_wp2_with fail
        refine (HI.out _).mono ?_
        rintro e w2 ⟨rfl,b2⟩
        have B2:=hD (below2S B1.out b2)
        have C2:=hD (C1.out.later b2)
        obtain⟨c0,c1,c2,c3,c4,c5,c6⟩:=C2.out
        simp only [Nat.zero_add] at c0 c1 c2 c3 c4 c5 c6
        have HB2:=hD b2
        clear b2
        go_wp2_with fail
        refine (HJ.out _).mono ?_
        rintro e w3 ⟨rfl,b3⟩
        have B3:=hD (below2S B2.out b3)
        have C3:=hD (C2.out.later b3)
        have HB3:=hD b3
        clear b3 c0 c1 c2 c3 c4 c5 c6
        obtain⟨c0,c1,c2,c3,c4,c5,c6⟩:=C3.out
        simp only [Nat.zero_add] at c0 c1 c2 c3 c4 c5 c6
        go_wp2_with fail
        obtain⟨p0,p1,p2,p3,p4,p5,p6⟩:=cells7_regrown (HP.out.later (below2S (below2S ((Below.refl _ _).alloc (Nat.le_refl _) _) HB2.out) HB3.out))
        have q0:=cell_regrown c0
        have q1:=cell_regrown c1
        have q2:=cell_regrown c2
        have q3:=cell_regrown c3
        have q4:=cell_regrown c4
        have q5:=cell_regrown c5
        have q6:=cell_regrown c6
        clear c0 c1 c2 c3 c4 c5 c6
        refine wp_region_quiet_below (by kernel_rfl) (by kernel_rfl) ?_
        repeat (go_big_quiet_step (with_reducible exact rgB HCmp.out _ _ _))
        refine wpQuiet_nil ?_
        intro w5 hw5
        have B5:=hD (below2S B3.out (regrown_belowP hw5))
        clear hw5 p0 p1 p2 p3 p4 p5 p6 q0 q1 q2 q3 q4 q5 q6
        go_wp2_with fail
        go_roundw
        case rel => exact⟨j+1+1,by omega,by go_num,B5,HA2⟩
        case measure => simp [intOf]; omega
       | false =>
        rw [hc] at hge
        simp only [Bool.not_false] at hge
        have HR:Hid (riseB l=false):=by show _=_; exact riseB_off hlt (by unfold riseAt; rw [hr,show j+1 - 1=j by omega,hr2]; simp [hc])
        clear hi hj hr hoc hr2 hc
        go_wp2_with fail
        refine (HI.out _).mono ?_
        rintro e w2 ⟨rfl,b2⟩
        have B2:=hD (below2S B1.out b2)
        have C2:=hD (C1.out.later b2)
        obtain⟨c0,c1,c2,c3,c4,c5,c6⟩:=C2.out
        simp only [Nat.zero_add] at c0 c1 c2 c3 c4 c5 c6
        have HB2:=hD b2
        clear b2
        go_wp2_with fail
        refine (HJ.out _).mono ?_
        rintro e w3 ⟨rfl,b3⟩
        have B3:=hD (below2S B2.out b3)
        have C3:=hD (C2.out.later b3)
        have HB3:=hD b3
        clear b3 c0 c1 c2 c3 c4 c5 c6
        obtain⟨c0,c1,c2,c3,c4,c5,c6⟩:=C3.out
        simp only [Nat.zero_add] at c0 c1 c2 c3 c4 c5 c6
        go_wp2_with fail
        obtain⟨p0,p1,p2,p3,p4,p5,p6⟩:=cells7_regrown (HP.out.later (below2S (below2S ((Below.refl _ _).alloc (Nat.le_refl _) _) HB2.out) HB3.out))
        have q0:=cell_regrown c0
        have q1:=cell_regrown c1
        have q2:=cell_regrown c2
        have q3:=cell_regrown c3
        have q4:=cell_regrown c4
        have q5:=cell_regrown c5
        have q6:=cell_regrown c6
        clear c0 c1 c2 c3 c4 c5 c6
        refine wp_region_quiet_below (by kernel_rfl) (by kernel_rfl) ?_
        repeat (go_big_quiet_step (with_reducible exact rgB HCmp.out _ _ _))
        refine wpQuiet_nil ?_
        intro w5 hw5
        have B5:=hD (below2S B3.out (regrown_belowP hw5))
        clear hw5 p0 p1 p2 p3 p4 p5 p6 q0 q1 q2 q3 q4 q5 q6
        go_wp2_with fail
        go_ret
        exact⟨by rw [HR.out]; rfl,B5.out⟩
  ·obtain rfl:k=l.length:=by omega
   have HR:Hid (riseB l=true):=HA
   go_wp2_with fail
   go_ret
   exact⟨by rw [HR.out]; rfl,HB.out⟩

end Go.Proofs.YtphfinlfabklmaaGreat

end

section

namespace Go.Proofs.YtphfinlfabklmaaGreat
open Go.RowKit

theorem over_any {w:World} {v:Value} {l:List Ent} (hv:Ents w v l) {k:Nat} (hk:k < l.length) :
  Calls Tryz.prog 182 #[v,.int .i64 k] w fun e w' => e=.returned (.bool (roOver l k))∧Below w.heap.size w w':=by
 have HV:=hD hv
 obtain⟨a,cap,rfl,hm⟩:=hv.open'
 clear hv
 by_cases h16:16≤k
 ·obtain⟨b,off,rfl,hA⟩:=HV.out.row (Below.refl _ _) (k - 16) (by omega)
  obtain⟨b2,off2,e2,hB⟩:=HV.out.row (Below.refl _ _) k hk
  injection e2 with e2
  injection e2 with e3 e4 _
  subst e3 e4
  obtain⟨x,hx⟩ : ∃ x,(l.getD (k - 16) Ent.zero).o=x:=⟨_,rfl⟩
  obtain⟨y,hy⟩ : ∃ y,(l.getD k Ent.zero).o=y:=⟨_,rfl⟩
  have g0:=cell_regrown hA.1
  have g1:=cell_regrown hB.1
  rw [hx] at g0
  rw [hy] at g1
  have HR:Hid (roOver l k=(x == y)):=by
   show _=_
   unfold roOver
   rw [hx,hy,show decide (16≤k)=true by simpa using h16,Bool.true_and]
   by_cases h:x=y <;> simp [h]
  obtain⟨r,hr⟩ : ∃ r,(x == y)=r:=⟨_,rfl⟩
  rw [HR.out,hr]
  have t1:decide (16≤(k:Int))=true:=by simp; omega
  have e16:(16:Int)≤(k:Int):=by omega
  have hj1:(k:Int) - 16 < (l.length:Int):=by omega
  have hj0:(0:Int)≤(k:Int) - 16:=by omega
  have hj2:(k:Int) < (l.length:Int):=by omega
  have hw:IntKind.i64.wrap ((k:Int) - 16)=(k:Int) - 16:=IntWalk.i64_in _ (by omega)
  have hn:((k:Int) - 16).toNat=k - 16:=by omega
  clear hx hy HR hA hB
  go_enter Tryz.func182,Tryz.ntmps182
  go_wp2_with fail
  refine wp_region_quiet_below (by kernel_rfl) (by kernel_rfl) ?_
  repeat (go_big_quiet_step (fail))
  refine wpQuiet_nil ?_
  intro w5 hw5
  have B5:=hD (regrown_belowP hw5)
  clear hw5 g0 g1
  go_wp2_with fail
  go_ret
  exact⟨rfl,B5.out⟩
 ·have HR:Hid (roOver l k=false):=by show _=_; unfold roOver; simp [h16]
  have t1:decide (16≤(k:Int))=false:=by simp; omega
  clear h16
  rw [HR.out]
  go_enter Tryz.func182,Tryz.ntmps182
  go_wp2_with fail
  refine wp_region_quiet_below (by kernel_rfl) (by kernel_rfl) ?_
  repeat (go_big_quiet_step (fail))
  refine wpQuiet_nil ?_
  intro w5 hw5
  have B5:=hD (regrown_belowP hw5)
  clear hw5
  go_wp2_with fail
  go_ret
  exact⟨rfl,B5.out⟩

end Go.Proofs.YtphfinlfabklmaaGreat

end

section

namespace Go.Proofs.YtphfinlfabklmaaGreat

theorem roPaired_off {l:List Ent} {eo ec:List UInt8} {x:It} (hany:(l.any fun e => entIs e ⟨ec,eo,⟨false,false,false,false,false⟩⟩)=false):roPaired l ⟨eo,ec,x⟩=false:=by
 show ((l.any fun x => entIs x ⟨ec,eo,⟨false,false,false,false,false⟩⟩) && _)=false
 rw [hany,Bool.false_and]

theorem roPaired_on {l:List Ent} (hr:Rise l) {eo ec fo fc:List UInt8} {x i:It} (hany:(l.any fun e => entIs e ⟨ec,eo,⟨false,false,false,false,false⟩⟩)=true)
  (hlt:entPlace l ⟨ec,eo,⟨false,false,false,false,false⟩⟩ < l.length) (he:l.getD (entPlace l ⟨ec,eo,⟨false,false,false,false,false⟩⟩) Ent.zero=⟨fo,fc,i⟩)
  (hs:entIs ⟨fo,fc,i⟩ ⟨ec,eo,⟨false,false,false,false,false⟩⟩=true):roPaired l ⟨eo,ec,x⟩=(suMay x i && !(suEmpty x && suEmpty i)):=by
 have hm:(⟨fo,fc,i⟩ : Ent) ∈ l:=by rw [← he,getD_at hlt]; exact List.getElem_mem hlt
 have hit:=roIt_mem hr hm
 obtain⟨ho,hc⟩:=entIs_iff.1 hs
 simp only at ho hc hit
 subst ho hc
 unfold roPaired
 simp only []
 rw [hit,show (l.any fun x => entIs x ⟨fo,fc,It.zero⟩)=true from hany,Bool.true_and]

theorem roPair_place {l:List Ent} (hr:Rise l) {eo ec:List UInt8} (hany:(l.any fun e => entIs e ⟨ec,eo,⟨false,false,false,false,false⟩⟩)=true) :
  entPlace l ⟨ec,eo,⟨false,false,false,false,false⟩⟩ < l.length∧entIs (l.getD (entPlace l ⟨ec,eo,⟨false,false,false,false,false⟩⟩) Ent.zero) ⟨ec,eo,⟨false,false,false,false,false⟩⟩=true:=by
 have ht:=(entPlace_there hr ⟨ec,eo,⟨false,false,false,false,false⟩⟩).trans hany
 rw [Bool.and_eq_true,decide_eq_true_eq] at ht
 exact ht

end Go.Proofs.YtphfinlfabklmaaGreat

end

section

namespace Go.Proofs.YtphfinlfabklmaaGreat
open Go.RowKit

theorem paired_any {w:World} {v:Value} {l:List Ent} (hv:Ents w v l) (hr:Rise l) (eo ec:List UInt8) (x1 x2 x3 x4 x5:Bool) {r:Bool} (h:Hid (roPaired l ⟨eo,ec,⟨x1,x2,x3,x4,x5⟩⟩=r)) :
  Calls Tryz.prog 183 #[v,.agg #[.string ⟨eo.toArray⟩,.string ⟨ec.toArray⟩,.bool x1,.bool x2,.bool x3,.bool x4,.bool x5]] w fun e w' => e=.returned (.bool r)∧Below w.heap.size w w':=by
 cases hany:(l.any fun e => entIs e ⟨ec,eo,⟨false,false,false,false,false⟩⟩) with
 | false =>
  have hR:=roPaired_off (x:=⟨x1,x2,x3,x4,x5⟩) hany
  rw [h.out] at hR
  subst hR
  exact paired_no hv hr eo ec x1 x2 x3 x4 x5 hany
 | true =>
  obtain⟨hlt,hs⟩:=roPair_place hr hany
  obtain⟨⟨fo,fc,⟨i1,i2,i3,i4,i5⟩⟩,he⟩ : ∃ r,l.getD (entPlace l ⟨ec,eo,⟨false,false,false,false,false⟩⟩) Ent.zero=r:=⟨_,rfl⟩
  rw [he] at hs
  have hP:=paired_yes hv hr eo ec x1 x2 x3 x4 x5 hlt he hs
  have hR:=roPaired_on (x:=⟨x1,x2,x3,x4,x5⟩) hr hany hlt he hs
  rw [h.out] at hR
  rw [← hR] at hP
  exact hP

end Go.Proofs.YtphfinlfabklmaaGreat

end

section

namespace Go.Proofs.YtphfinlfabklmaaGreat
open Go.RowKit

theorem roMayC_off {l:List Ent} {k:Nat} (hk:k < l.length) (h:roCodeAt l k=false):roMayC l=false:=by
 rw [Bool.eq_false_iff]
 intro h'
 unfold roMayC at h'
 rw [Bool.and_eq_true,List.all_eq_true,List.all_eq_true] at h'
 rw [h'.2 k (by simpa using hk)] at h
 cases h

theorem roCode_next {l:List Ent} {k:Nat} (h:(List.range k).all (roCodeAt l)=true) (hk:roCodeAt l k=true):(List.range (k+1)).all (roCodeAt l)=true:=by
 rw [List.range_succ,List.all_append,h]
 simp [hk]

theorem romay_any {w:World} {v:Value} {l:List Ent} (hv:Ents w v l) (hs:ShortE l) {r:Bool} (h:Hid (roMayC l=r)) :
  Calls Tryz.prog 114 #[v] w fun e w' => e=.returned (.bool r)∧Below w.heap.size w w':=by
 have HV:=hD hv
 have HS:=hD hs
 have HI:=hD (rises_any hv hs)
 obtain⟨a,cap,rfl,hm⟩:=hv.open'
 clear hv hs
 cases hri:riseB l with
 | false =>
  have HR:roMayC l=false:=by
   show (riseB l && _)=false
   rw [hri,Bool.false_and]
  rw [h.out] at HR
  subst HR
  rw [hri] at HI
  clear hri
  go_enter Tryz.func114,Tryz.ntmps114
  go_wp2_with fail
  refine HI.out.mono ?_
  rintro e w1 ⟨rfl,b1⟩
  have B1:=hD b1
  clear b1
  go_wp2_with fail
  go_ret
  exact⟨rfl,B1.out⟩
 | true =>
  have HRise:=hD (riseB_rise hri)
  have HRB:=hD hri
  rw [hri] at HI
  clear hri
  go_enter Tryz.func114,Tryz.ntmps114
  go_wp2_with fail
  refine HI.out.mono ?_
  rintro e w1 ⟨rfl,b1⟩
  have B1:=hD b1
  clear b1
  go_wp2_with fail
  go_loopw [10] (fun i wr => ∃ k:Nat,k≤l.length∧i=.int .i64 k∧Hid (Below w.heap.size w wr)∧Hid ((List.range k).all (roCodeAt l)=true)) (fun i _ => l.length - (intOf i).toNat)
  case atStart => exact⟨0,by omega,rfl,B1,by show _=_; simp⟩
  case round =>
   obtain⟨k,hk,rfl,HB,HA⟩:=hrel
   by_cases hlt:k < l.length
   ·obtain⟨b,off,rfl,h0,h1,h2,h3,h4,h5,h6⟩:=HV.out.row HB.out k hlt
    obtain⟨⟨eo,ec,⟨i1,i2,i3,i4,i5⟩⟩,hr⟩ : ∃ r,l.getD k Ent.zero=r:=⟨_,rfl⟩
    rw [hr] at h0 h1 h2 h3 h4 h5 h6
    simp only at h0 h1 h2 h3 h4 h5 h6
    have B2:=hD (bl_allocS HB.out (.cells #[.string ⟨eo.toArray⟩,.string ⟨ec.toArray⟩,.bool i1,.bool i2,.bool i3,.bool i4,.bool i5] 126))
    have C1:=hD (cells7_made wr ⟨eo,ec,⟨i1,i2,i3,i4,i5⟩⟩ 126)
    have HO:=hD (over_any (HV.out.later B2.out) hlt)
    cases ho:roOver l k with
    | true =>
     have HR:roMayC l=false:=roMayC_off hlt (by unfold roCodeAt; rw [ho]; rfl)
     rw [h.out] at HR
     subst HR
     rw [ho] at HO
     clear ho hr
     go_wp2_with fail
     refine HO.out.mono ?_
     rintro e w3 ⟨rfl,b3⟩
     have B3:=hD (below2S B2.out b3)
     clear b3
     go_wp2_with fail
     go_ret
     exact⟨rfl,B3.out⟩
    | false =>
     rw [ho] at HO
     obtain⟨q,hq⟩ : ∃ q,roPaired l ⟨eo,ec,⟨i1,i2,i3,i4,i5⟩⟩=q:=⟨_,rfl⟩
     have hAt:roCodeAt l k=q:=by
      unfold roCodeAt
      rw [ho,hr,hq]
      rfl
     have HAt:=hD hAt
     have HQ:=hD hq
     clear hAt hq ho hr
     go_wp2_with fail
     refine HO.out.mono ?_
     rintro e w3 ⟨rfl,b3⟩
     have B3:=hD (below2S B2.out b3)
     obtain⟨c0,c1,c2,c3,c4,c5,c6⟩:=C1.out.later b3
     simp only [Nat.zero_add] at c0 c1 c2 c3 c4 c5 c6
     clear b3
     go_wp2_with fail
     refine (paired_any (HV.out.later B3.out) HRise.out eo ec i1 i2 i3 i4 i5 HQ).mono ?_
     rintro e w4 ⟨rfl,b4⟩
     have B4:=hD (below2S B3.out b4)
     clear b4 c0 c1 c2 c3 c4 c5 c6
     cases q with
     | true =>
      have HA2:=hD (roCode_next HA.out HAt.out)
      go_wp2_with fail
      go_roundw
      case rel => exact⟨k+1,by omega,by go_num,B4,HA2⟩
      case measure => simp [intOf]; omega
     | false =>
      have HR:roMayC l=false:=roMayC_off hlt HAt.out
      rw [h.out] at HR
      subst HR
      go_wp2_with fail
      go_ret
      exact⟨rfl,B4.out⟩
   ·obtain rfl:k=l.length:=by omega
    have HR:roMayC l=true:=by
     unfold roMayC
     rw [HA.out,Bool.and_true]
     exact HRB.out
    rw [h.out] at HR
    subst HR
    go_wp2_with fail
    go_ret
    exact⟨rfl,HB.out⟩

end Go.Proofs.YtphfinlfabklmaaGreat

end

section

namespace Go.Proofs.YtphfinlfabklmaaGreat
open Go.RowKit

theorem cell_after {w w':World} {a:Addr} {v:Value} (h:w.cell? a=some v) (hb:Below w.heap.size w w'):w'.cell? a=some v :=
 (hb.cell (World.block_lt_of_cell? w a h)).trans h

def encS (l:List UInt8):Value:=.string ⟨l.toArray⟩

def Texts (w:World) (v:Value) (ls:List (List UInt8)):Prop :=
 ∃ a cap,v=.slice a ls.length cap∧ls.length≤cap∧cap≤maxLen∧(a=none→cap=0) ∧
  (ls=[]∨∃ b off,a=some ⟨b,off,none⟩∧b < w.heap.size∧∀ i,i < ls.length→w.cell? ⟨b,off+i,none⟩=some (encS (ls.getD i [])))

theorem Texts.later {w w':World} {v:Value} {ls:List (List UInt8)} (h:Texts w v ls) (hb:Below w.heap.size w w'):Texts w' v ls:=by
 obtain⟨a,cap,h1,h2,h3,h4,h5⟩:=h
 refine ⟨a,cap,h1,h2,h3,h4,?_⟩
 rcases h5 with h5 | ⟨b,off,e,hlt,hc⟩
 ·exact .inl h5
 ·exact .inr ⟨b,off,e,Nat.lt_of_lt_of_le hlt hb.size,fun i hi => (hb.cell (p:=⟨b,off+i,none⟩) hlt).trans (hc i hi)⟩

theorem texts_nil (w:World):Texts w (.slice none 0 0) []:=⟨none,0,rfl,by simp,by simp,fun _ => rfl,.inl rfl⟩

theorem encS_one (ls:List (List UInt8)):∀ u ∈ ls.map encS,u.oneCell'=true:=by
 intro u hu
 obtain⟨l,_,rfl⟩:=List.mem_map.1 hu
 rfl

theorem texts_of_own {w:World} {base e:Nat} {v:Value} {ls:List (List UInt8)} (h:w.ownsRow base e 1 v ls.length (ls.map encS)):Texts w v ls:=by
 rcases h with ⟨_,⟨rfl,h0⟩ | ⟨g,cap,cur,rfl,hb,hg,hn,hc,hsz,htk⟩⟩
 ·obtain rfl:ls=[]:=List.length_eq_zero_iff.1 h0
  exact texts_nil w
 ·refine ⟨some ⟨g,0,none⟩,cap,rfl,hn,hc,(fun e => by cases e),?_⟩
  refine .inr ⟨g,0,rfl,(Array.getElem?_eq_some_iff.1 hg).1,fun i hi => ?_⟩
  rw [Nat.zero_add,cell_of_row w g i cur e (0,0) hg]
  have h1:cur.toList[i]?=(ls.map encS)[i]?:=by
   rw [← htk,List.getElem?_take,if_pos (by omega)]
  have h2:(ls.map encS)[i]?=some (encS (ls.getD i [])):=by
   simp [List.getD,List.getElem?_eq_getElem hi]
  rw [← h2,← h1]
  simp

def OwnT (w:World) (base e:Nat) (v:Value) (ls:List (List UInt8)):Prop:=w.ownsRow base e 1 v ls.length (ls.map encS)

theorem OwnT.alloc {w:World} {base e:Nat} {v:Value} {ls:List (List UInt8)} (h:OwnT w base e v ls) (o:Obj):OwnT (w.alloc o) base e v ls:=World.ownsRow.alloc h o
theorem OwnT.texts {w:World} {base e:Nat} {v:Value} {ls:List (List UInt8)} (h:OwnT w base e v ls):Texts w v ls:=texts_of_own h
theorem wpList_append_texts {P:Program} {w:World} {ops:Array Oper} {rest:List Oper} {o:Oper} {a:Act} {Q:Exit→Act→World→Prop}
  (hgd:o.guard=none) (s x:Operand) (t:TypeId) (ho:o.op=.call { callee:=.builtin .append,args:=#[s,x],argTypes:=#[t,t] })
  (base:Nat) (e:TypeId) (i:TypeInfo) (z:Value) (bytes:Nat) (ht:P.underlying t=some (.slice e)) (hi:P.info? e=some i) (hz:i.zero=some z)
  (hsize:i.size=1) (hby:i.bytes=bytes) (hzs:z.cells.size=1)
  (v:Value) (ls:List (List UInt8)) (hs:a.eval s=v) (hown:OwnT w base e v ls)
  (ao:Option Addr) (m c:Nat) (ms:List (List UInt8)) (hx:a.eval x=.slice ao m c) (hm:m=ms.length) (hnone:ao=none→c=0∧ms=[])
  (hsome:∀ ad,ao=some ad→∀ j u,(ms.map encS)[j]?=some u→w.cell? (ad.add j)=some u)
  (hlen:ls.length+ms.length < 4294967296) (hb:bytes≤4096) (hbase:base≤w.heap.size)
  (h:∀ v' w',OwnT w' base e v' (ls ++ ms)→Below base w w'→wpList P ops Q rest (a.put o.dst v') w') :
  wpList P ops Q (o :: rest) a w:=by
 cases ao with
 | none =>
  obtain⟨rfl,rfl⟩:=hnone rfl
  simp only [List.length_nil] at hm
  subst hm
  exact wpList_append_own_none hgd s x t ho base e i 1 ht hi v ls.length (ls.map encS) hs hown hx (h v w (by simpa using hown) (Below.refl _ _))
 | some ad =>
  subst hm
  refine wpList_append_own _ hgd s x t ho base e i z 1 bytes ht hi hz hsize hby hzs (by decide) v ls.length (ls.map encS) hs hown ad ms.length c (ms.map encS) hx (by simp) (hsome ad rfl) (encS_one ms)
   (by unfold maxLen; omega) (Nat.le_trans (Nat.mul_le_mul (show ls.length+ms.length≤4294967296 by omega) hb) (by decide)) hbase ?_
  intro v' w' hown' hgrow _
  refine h v' w' ?_ ((Below.refl base w).grown hgrow hbase (fun k hk => (World.ownsRow.lt hown k hk).1))
  unfold OwnT
  rw [List.map_append,List.length_append]
  exact hown'

end Go.Proofs.YtphfinlfabklmaaGreat

end

section

namespace Go.Proofs.YtphfinlfabklmaaGreat
open Go.RowKit

theorem Tryz.infoTxt:(Tryz.prog.info? 9).map (fun i => (i.zero,i.size,i.bytes))=some (some (.string ⟨#[]⟩),1,16):=by kernel_rfl

theorem new_cellR {w:World} {u:Value} {e:TypeId}:∀ ad,some (⟨w.heap.size,0,none⟩ : Addr)=some ad→∀ j v,([u]:List Value)[j]?=some v→(w.alloc (.cells #[u] e)).cell? (ad.add j)=some v:=by
 intro ad had j v hv
 obtain rfl:=Option.some.inj had
 exact cells_one w u e j v hv

theorem new_cellN {w:World} {u:Value} {e:TypeId} {B:Nat} (hB:B=w.heap.size):∀ ad,some (⟨B,0,none⟩ : Addr)=some ad→∀ j v,([u]:List Value)[j]?=some v→(w.alloc (.cells #[u] e)).cell? (ad.add j)=some v:=by
 subst hB
 exact new_cellR

theorem roOf_succ {l:List Ent} {k:Nat} (hk:k < l.length) (o:List UInt8):roOf (l.take (k+1)) o=if (l.getD k Ent.zero).o=o then roOf (l.take k) o ++ [(l.getD k Ent.zero).c] else roOf (l.take k) o:=by
 unfold roOf
 rw [List.take_succ_eq_append_getElem hk,getD_at hk,List.filter_append,List.map_append]
 by_cases h:l[k].o=o
 ·rw [if_pos h,List.filter_cons,if_pos (by simp [ofOwner,h])]
  rfl
 ·rw [if_neg h,List.filter_cons,if_neg (by simp [ofOwner,h])]
  simp

theorem roOf_le (l:List Ent) (o:List UInt8):(roOf l o).length≤l.length:=by
 rw [roOf_len]
 exact List.length_filter_le _ _

theorem rof_any {w:World} {v:Value} {l:List Ent} (hv:Ents w v l) (hl:l.length≤4294967) (o:List UInt8) :
  Calls Tryz.prog 69 #[v,.string ⟨o.toArray⟩] w fun e w' => ∃ u,e=.returned u∧OwnT w' w.heap.size 9 u (roOf l o)∧Below w.heap.size w w':=by
 obtain⟨i0,hi,hz0,hz1,hz2⟩:=info_parts Tryz.infoTxt
 have HV:=hD hv
 obtain⟨a,cap,rfl,_⟩:=hv.open'
 clear hv
 go_enter Tryz.func69,Tryz.ntmps69
 go_wp2_with fail
 go_loopw [5,6] (fun s i wr => ∃ k:Nat,k≤l.length∧i=.int .i64 k∧Hid (OwnT wr w.heap.size 9 s (roOf (l.take k) o))∧Hid (Below w.heap.size w wr)) (fun _ i _ => l.length - (intOf i).toNat)
 case atStart => exact⟨0,by omega,rfl,World.ownsRow_nil _ _ _ _,Below.refl _ _⟩
 case round =>
  obtain⟨k,hk,rfl,HO,HN⟩:=hrel
  by_cases hlt:k < l.length
  ·obtain⟨b,off,rfl,h0,h1,_⟩:=HV.out.row HN.out k hlt
   have hX:=roOf_succ hlt o
   obtain⟨⟨eo,c,it⟩,hr⟩ : ∃ r,l.getD k Ent.zero=r:=⟨_,rfl⟩
   rw [hr] at h0 h1 hX
   simp only at h0 h1 hX
   clear hr
   by_cases ho:eo=o
   ·rw [if_pos ho] at hX
    have HX:=hD hX
    subst ho
    have O2:=hD (HO.out.alloc (.cells #[.string ⟨c.toArray⟩] 9))
    have N2:=hD (bl_allocS HN.out (.cells #[.string ⟨c.toArray⟩] 9))
    have hz3:=N2.out.size
    have hcl:(roOf (l.take k) eo).length≤4294967:=by have:=roOf_le (l.take k) eo; rw [List.length_take] at this; omega
    clear hX HO
    go_wp2_with (at_builtin; go_must (refine wpList_append_texts rfl _ _ 37 rfl w.heap.size 9 i0 _ 16 Tryz.underlying37 hi hz0 hz1 hz2 rfl _ (roOf (l.take k) eo) rfl (by exact O2.out) _ 1 1 [c] rfl rfl (fun e => nomatch e) ?c1 (by simp only [List.length_cons,List.length_nil]; omega) (by decide) hz3 ?_))
    case c1 => exact new_cellR
    intro v' w' hown' hb'
    rw [← HX.out] at hown'
    have O3:=hD hown'
    have N3:=hD (N2.out.trans hb')
    clear hown' hb' O2 h0 h1
    go_wp2_with fail
    go_roundw
    case rel => exact⟨k+1,by omega,by go_num,O3,N3⟩
    case measure => simp [intOf]; omega
   ·rw [if_neg ho] at hX
    have o3:=HO.out
    rw [← hX] at o3
    have O3:=hD o3
    clear o3
    have t1:(eo == o)=false:=by rw [beq_eq_false_iff_ne]; exact ho
    clear hX HO ho
    go_wp2_with fail
    go_roundw
    case rel => exact⟨k+1,by omega,by go_num,O3,HN⟩
    case measure => simp [intOf]; omega
  ·obtain rfl:k=l.length:=by omega
   have ht:=HO.out
   rw [List.take_length] at ht
   have HT:=hD ht
   clear ht
   go_wp2_with fail
   go_ret
   exact⟨_,rfl,HT.out,HN.out⟩

theorem of_any {w:World} {v:Value} {l:List Ent} (hv:Ents w v l) (hl:l.length≤4294967) (o:List UInt8) :
  Calls Tryz.prog 121 #[v,.string ⟨o.toArray⟩] w fun e w' => ∃ u,e=.returned u∧OwnT w' w.heap.size 9 u (roOf l o)∧Below w.heap.size w w':=by
 obtain⟨i0,hi,hz0,hz1,hz2⟩:=info_parts Tryz.infoTxt
 have HV:=hD hv
 obtain⟨a,cap,rfl,_⟩:=hv.open'
 clear hv
 go_enter Tryz.func121,Tryz.ntmps121
 go_wp2_with fail
 go_loopw [5,10] (fun s i wr => ∃ k:Nat,k≤l.length∧i=.int .i64 k∧Hid (OwnT wr w.heap.size 9 s (roOf (l.take k) o))∧Hid (Below w.heap.size w wr)) (fun _ i _ => l.length - (intOf i).toNat)
 case atStart => exact⟨0,by omega,rfl,World.ownsRow_nil _ _ _ _,Below.refl _ _⟩
 case round =>
  obtain⟨k,hk,rfl,HO,HN⟩:=hrel
  by_cases hlt:k < l.length
  ·obtain⟨b,off,rfl,h0,h1,h2,h3,h4,h5,h6⟩:=HV.out.row HN.out k hlt
   have hX:=roOf_succ hlt o
   obtain⟨⟨eo,c,⟨i1,i2,i3,i4,i5⟩⟩,hr⟩ : ∃ r,l.getD k Ent.zero=r:=⟨_,rfl⟩
   rw [hr] at h0 h1 h2 h3 h4 h5 h6 hX
   simp only at h0 h1 h2 h3 h4 h5 h6 hX
   clear hr
   by_cases ho:eo=o
   ·rw [if_pos ho] at hX
    have HX:=hD hX
    subst ho
    have O2:=hD ((HO.out.alloc (.cells #[.string ⟨eo.toArray⟩,.string ⟨c.toArray⟩,.bool i1,.bool i2,.bool i3,.bool i4,.bool i5] 126)).alloc (.cells #[.string ⟨c.toArray⟩] 9))
    have N2:=hD (bl_allocS (bl_allocS HN.out (.cells #[.string ⟨eo.toArray⟩,.string ⟨c.toArray⟩,.bool i1,.bool i2,.bool i3,.bool i4,.bool i5] 126)) (.cells #[.string ⟨c.toArray⟩] 9))
    have hz3:=N2.out.size
    have hcl:(roOf (l.take k) eo).length≤4294967:=by have:=roOf_le (l.take k) eo; rw [List.length_take] at this; omega
    clear hX HO
    go_wp2_with (at_builtin; go_must (refine wpList_append_texts rfl _ _ 37 rfl w.heap.size 9 i0 _ 16 Tryz.underlying37 hi hz0 hz1 hz2 rfl _ (roOf (l.take k) eo) rfl (by exact O2.out) _ 1 1 [c] rfl rfl (fun e => nomatch e) ?c1 (by simp only [List.length_cons,List.length_nil]; omega) (by decide) hz3 ?_))
    case c1 => exact new_cellN (by simp)
    intro v' w' hown' hb'
    rw [← HX.out] at hown'
    have O3:=hD hown'
    have N3:=hD (N2.out.trans hb')
    clear hown' hb' O2 h0 h1 h2 h3 h4 h5 h6
    go_wp2_with fail
    go_roundw
    case rel => exact⟨k+1,by omega,by go_num,O3,N3⟩
    case measure => simp [intOf]; omega
   ·rw [if_neg ho] at hX
    have o3:=HO.out.alloc (.cells #[.string ⟨eo.toArray⟩,.string ⟨c.toArray⟩,.bool i1,.bool i2,.bool i3,.bool i4,.bool i5] 126)
    rw [← hX] at o3
    have O3:=hD o3
    clear o3
    have N3:=hD (bl_allocS HN.out (.cells #[.string ⟨eo.toArray⟩,.string ⟨c.toArray⟩,.bool i1,.bool i2,.bool i3,.bool i4,.bool i5] 126))
    have t1:(eo == o)=false:=by rw [beq_eq_false_iff_ne]; exact ho
    clear hX HO ho
    go_wp2_with fail
    go_roundw
    case rel => exact⟨k+1,by omega,by go_num,O3,N3⟩
    case measure => simp [intOf]; omega
  ·obtain rfl:k=l.length:=by omega
   have ht:=HO.out
   rw [List.take_length] at ht
   have HT:=hD ht
   clear ht
   go_wp2_with fail
   go_ret
   exact⟨_,rfl,HT.out,HN.out⟩

end Go.Proofs.YtphfinlfabklmaaGreat

end

section

namespace Go.Proofs.YtphfinlfabklmaaGreat
open Go.RowKit

theorem putO_here {l:List Ent} (hr:Rise l) {x:Ent} (h:(decide (entPlace l x < l.length) && entIs (l.getD (entPlace l x) Ent.zero) x)=true):putO entLt entIs l x=l.set (entPlace l x) x:=by
 have hany:=(entPlace_there hr x).symm.trans h
 unfold putO
 cases hf:findO entIs l x with
 | none =>
  have:=(findO_isSome (eq:=entIs) (l:=l) (x:=x)).trans hany
  rw [hf] at this
  cases this
 | some i =>
  have:=findO_place entOrd hr hf
  subst this
  rfl

theorem putO_new {l:List Ent} (hr:Rise l) {x:Ent} (h:(decide (entPlace l x < l.length) && entIs (l.getD (entPlace l x) Ent.zero) x)=false):putO entLt entIs l x=putS l (entPlace l x) x:=by
 have hany:=(entPlace_there hr x).symm.trans h
 unfold putO
 cases hf:findO entIs l x with
 | none => rfl
 | some i =>
  have:=(findO_isSome (eq:=entIs) (l:=l) (x:=x)).trans hany
  rw [hf] at this
  cases this

theorem rwith_any {w:World} {v:Value} {l:List Ent} (hv:Ents w v l) (hr:Rise l) (hl:l.length≤1000) (xo xc:List UInt8) (x1 x2 x3 x4 x5:Bool) :
  Calls Tryz.prog 149 #[v,.agg #[.string ⟨xo.toArray⟩,.string ⟨xc.toArray⟩,.bool x1,.bool x2,.bool x3,.bool x4,.bool x5]] w fun e w' => ∃ u,e=.returned u∧OwnS entVals 7 126 w' w.heap.size u (putO entLt entIs l ⟨xo,xc,⟨x1,x2,x3,x4,x5⟩⟩)∧Below w.heap.size w w':=by
 have bn:=bl_newZ w (.cells #[.string ⟨xo.toArray⟩,.string ⟨xc.toArray⟩,.bool x1,.bool x2,.bool x3,.bool x4,.bool x5] 126)
 have B0:=hD bn
 have HS:=hD (show (w.alloc (.cells #[.string ⟨xo.toArray⟩,.string ⟨xc.toArray⟩,.bool x1,.bool x2,.bool x3,.bool x4,.bool x5] 126)).heap.size=w.heap.size+1 by simp)
 have K0:=hD (cells7_made w ⟨xo,xc,⟨x1,x2,x3,x4,x5⟩⟩ 126)
 have HV:=hD (hv.later bn)
 obtain⟨p,hp⟩ : ∃ p,entPlace l ⟨xo,xc,⟨x1,x2,x3,x4,x5⟩⟩=p:=⟨_,rfl⟩
 obtain⟨q,hq⟩ : ∃ q,(decide (p < l.length) && entIs (l.getD p Ent.zero) ⟨xo,xc,⟨x1,x2,x3,x4,x5⟩⟩)=q:=⟨_,rfl⟩
 have HP:=hD (place_any HV.out hr xo xc x1 x2 x3 x4 x5 hp hq)
 have hple:p≤l.length:=by rw [← hp]; exact entPlace_le l _
 have HE:Hid (putO entLt entIs l ⟨xo,xc,⟨x1,x2,x3,x4,x5⟩⟩=if q=true then l.set p ⟨xo,xc,⟨x1,x2,x3,x4,x5⟩⟩ else putS l p ⟨xo,xc,⟨x1,x2,x3,x4,x5⟩⟩):=by
  show _=_
  subst hp
  cases q with
  | true => rw [if_pos rfl]; exact putO_here hr hq
  | false => rw [if_neg (by decide)]; exact putO_new hr hq
 have HQ:Hid (q=true→p < l.length):=fun e => by
  rw [e,Bool.and_eq_true,decide_eq_true_eq] at hq
  exact hq.1
 generalize putO entLt entIs l ⟨xo,xc,⟨x1,x2,x3,x4,x5⟩⟩=R at HE ⊢
 obtain⟨a,cap,rfl,hm⟩:=hv.open'
 clear hv bn hp hq
 cases q with
 | true =>
  have hlt:=HQ.out rfl
  go_enter Tryz.func149,Tryz.ntmps149
  go_wp2_with fail
  refine HP.out.mono ?_
  rintro e w1 ⟨rfl,b1⟩
  have B1:=hD (below2Z B0.out b1)
  have K1:=hD (K0.out.later b1)
  have V1:=hD (HV.out.later b1)
  have hz1:=b1.size
  clear b1
  go_wp2_with fail
  refine (ent_clone V1.out.rdS (by omega)).mono ?_
  rintro e w2 ⟨u,rfl,ho,b2⟩
  have B2:=hD (below2Z B1.out b2)
  obtain⟨k0,k1,k2,k3,k4,k5,k6⟩:=K1.out.later b2
  simp only [Nat.zero_add] at k0 k1 k2 k3 k4 k5 k6
  have HO:=hD ho
  rw [HS.out] at hz1
  rcases ho.2 with ⟨rfl,h0⟩ | ⟨g,cp,cur,rfl,hbg,-,-,hcm,-,-⟩
  ·omega
  ·have n0:(0:Int)≤(p:Int):=by omega
   have n1:(p:Int) < (l.length:Int):=by omega
   obtain⟨s0,s1,s2,s3,s4,s5,s6⟩:=cells7_at.2 (HO.out.row entOK hlt)
   have f0:=HO.out.frozenAt (p * 7)
   have f1:=HO.out.frozenAt (p * 7+1)
   have f2:=HO.out.frozenAt (p * 7+2)
   have f3:=HO.out.frozenAt (p * 7+3)
   have f4:=HO.out.frozenAt (p * 7+4)
   have f5:=HO.out.frozenAt (p * 7+5)
   have f6:=HO.out.frozenAt (p * 7+6)
   have O3:=hD (ownS_low (setE_own HO.out hlt xo xc x1 x2 x3 x4 x5) (show w.heap.size≤w1.heap.size by omega))
   have N3:=hD (setE_below (o:=p * 7) B2.out (show w.heap.size≤g by omega) xo xc x1 x2 x3 x4 x5)
   have HR:=HE.out
   simp only [if_true] at HR
   have hid:=hD HR
   clear ho b2 HR HE HQ
   go_wp2_with fail
   go_ret
   exact⟨_,rfl,by rw [hid.out]; exact O3.out,N3.out⟩
 | false =>
  have HR:=HE.out
  simp only [Bool.false_eq_true,if_false] at HR
  have hid:=hD HR
  clear HR HE HQ
  go_enter Tryz.func149,Tryz.ntmps149
  go_wp2_with fail
  refine HP.out.mono ?_
  rintro e w1 ⟨rfl,b1⟩
  have B1:=hD (below2Z B0.out b1)
  have K1:=hD (K0.out.later b1)
  have V1:=hD (HV.out.later b1)
  have hz1:=b1.size
  rw [HS.out] at hz1
  clear b1
  go_wp2_with fail
  refine (ent_clone V1.out.rdS (by omega)).mono ?_
  rintro e w2 ⟨u,rfl,ho,b2⟩
  have B2:=hD (below2Z B1.out b2)
  obtain⟨k0,k1,k2,k3,k4,k5,k6⟩:=K1.out.later b2
  simp only [Nat.zero_add] at k0 k1 k2 k3 k4 k5 k6
  have b3:=bl_newZ w2 (.cells #[.string ⟨xo.toArray⟩,.string ⟨xc.toArray⟩,.bool x1,.bool x2,.bool x3,.bool x4,.bool x5] 126)
  have HO:=hD (ho.later b3)
  have HL:=hD (loneS_new (vals:=entVals) (T:=126) (w:=w2) (r:=⟨xo,xc,⟨x1,x2,x3,x4,x5⟩⟩) (cs:=#[.string ⟨xo.toArray⟩,.string ⟨xc.toArray⟩,.bool x1,.bool x2,.bool x3,.bool x4,.bool x5]) rfl (B:=w2.heap.size) rfl)
  have HNE:Hid (∀ g n c,u=.slice (some ⟨g,0,none⟩) n c→w2.heap.size ≠ g):=fun g n c e => by
   subst e
   have h1:=ho.head.2.2.1
   omega
  have hz2:=b2.size
  have hz3:=b3.size
  have HI:=hD (ent_insert (base:=w1.heap.size) HO.out (by omega) hl hple HL.out HNE.out)
  have B3:=hD (below2Z B2.out b3)
  have hw1:Hid (w.heap.size≤w1.heap.size):=by show _≤_; omega
  clear ho b2 b3 hz2 hz3
  go_wp2_with fail
  refine HI.out.mono ?_
  rintro e w4 ⟨y,rfl,ho4,b4⟩
  have O4:=hD (ownS_low ho4 hw1.out)
  have B4:=hD (B3.out.trans (b4.mono hw1.out))
  clear b4 ho4
  go_wp2_with fail
  go_ret
  exact⟨_,rfl,by rw [hid.out]; exact O4.out,B4.out⟩

end Go.Proofs.YtphfinlfabklmaaGreat

end
