/-
 TEXTS OF THE PROOF, one behind the other: SesRow, OpenS, RosFrame, FltPure, HeaPure, BesPure, BesLead, HeaMem, HeaBet, BesCode, BesBest, BesFrame.
-/
import Derived.Test.YtphfinlfabklmaaGreatProg
import Derived.Test.YtphfinlfabklmaaGreatB10
import Derived.Test.YtphfinlfabklmaaGreatB01
import Derived.Laws.StructEq
import Derived.BigRegion
import Derived.Deep.QuietTactic
import Derived.BigQuiet
import Derived.ProofKit
import Derived.OpenShut
import Derived.Lib.SmallJoins
import Derived.Deep.Slices
import Derived.Deep.Fields
import Derived.ChangeSame
import Derived.Test.YtphfinlfabklmaaGreatB11
import Derived.Laws.ComplexArith
import Derived.Lib.Hide
import Derived.WalkLawsBesides
import Derived.Deep.RegionHeld
import Derived.Maps.OwnSet
import Derived.StillTailTactics

set_option maxHeartbeats 12800000
set_option maxRecDepth 100000

section

namespace Go.Proofs.YtphfinlfabklmaaGreat
open Go.RowKit

def sesVals (s:Ses):List Value:=[.string ⟨s.u.toArray⟩,.int .i64 s.id,.int .i64 s.v.sh,.int .i64 s.v.pr,.int .i64 s.v.si,.string ⟨s.v.st.toArray⟩]

def sesAgg (s:Ses):Value:=.agg #[.string ⟨s.u.toArray⟩,.int .i64 s.id,.int .i64 s.v.sh,.int .i64 s.v.pr,.int .i64 s.v.si,.string ⟨s.v.st.toArray⟩]

theorem sesOK:RowOK Tryz.prog sesVals 6 Ses.zero 122 23 (.agg #[.string ⟨#[]⟩,.int .i64 0,.int .i64 0,.int .i64 0,.int .i64 0,.string ⟨#[]⟩]) 64 where
 len _:=rfl
 one a u hu:=by
  simp only [sesVals,List.mem_cons,List.not_mem_nil,or_false] at hu
  rcases hu with rfl | rfl | rfl | rfl | rfl | rfl <;> rfl
 pos:=by decide
 small:=by decide
 under:=Tryz.underlying23
 info:=by kernel_rfl
 zvals:=rfl
 fits:=by decide

abbrev Sess (w:World) (v:Value) (l:List Ses):Prop:=RdS sesVals 6 Ses.zero w v l
abbrev OwnSes (w:World) (base:Nat) (v:Value) (l:List Ses):Prop:=OwnS sesVals 6 122 w base v l

theorem cells6 {w:World} {b o:Nat} {s:Ses} (h:CellsAt w b o (sesVals s)) :
  w.cell? ⟨b,o,none⟩=some (.string ⟨s.u.toArray⟩)∧w.cell? ⟨b,o+1,none⟩=some (.int .i64 s.id)∧w.cell? ⟨b,o+2,none⟩=some (.int .i64 s.v.sh)∧w.cell? ⟨b,o+3,none⟩=some (.int .i64 s.v.pr)∧w.cell? ⟨b,o+4,none⟩=some (.int .i64 s.v.si)∧w.cell? ⟨b,o+5,none⟩=some (.string ⟨s.v.st.toArray⟩) :=
 ⟨h 0 _ rfl,h 1 _ rfl,h 2 _ rfl,h 3 _ rfl,h 4 _ rfl,h 5 _ rfl⟩

theorem cells6_regrown {w:World} {b o:Nat} {s:Ses} (h:CellsAt w b o (sesVals s)) :
  (∀ d os,(Sort.grow (redrawn w d) os).cell? ⟨b,o,none⟩=some (.string ⟨s.u.toArray⟩))∧(∀ d os,(Sort.grow (redrawn w d) os).cell? ⟨b,o+1,none⟩=some (.int .i64 s.id))∧(∀ d os,(Sort.grow (redrawn w d) os).cell? ⟨b,o+2,none⟩=some (.int .i64 s.v.sh)) ∧
  (∀ d os,(Sort.grow (redrawn w d) os).cell? ⟨b,o+3,none⟩=some (.int .i64 s.v.pr))∧(∀ d os,(Sort.grow (redrawn w d) os).cell? ⟨b,o+4,none⟩=some (.int .i64 s.v.si))∧(∀ d os,(Sort.grow (redrawn w d) os).cell? ⟨b,o+5,none⟩=some (.string ⟨s.v.st.toArray⟩)):=by
 obtain⟨h0,h1,h2,h3,h4,h5⟩:=cells6 h
 exact⟨cell_regrown h0,cell_regrown h1,cell_regrown h2,cell_regrown h3,cell_regrown h4,cell_regrown h5⟩

/-! ### '==' -/

theorem val_eqInS (d:Nat) (a b c a' b' c':Int) (s s':List UInt8) (w:World) :
  (Op.equalIn (d+1+1) 30 (.agg #[.int .i64 a,.int .i64 b,.int .i64 c,.string ⟨s.toArray⟩]) (.agg #[.int .i64 a',.int .i64 b',.int .i64 c',.string ⟨s'.toArray⟩])).run Tryz.prog w=.ok (valSame ⟨a,b,c,s⟩ ⟨a',b',c',s'⟩) w:=by
 have hS:Tryz.prog.underlying 30=some (.struct (Tryz.prog.fieldsOf 30)):=by kernel_rfl
 have hp:Tryz.prog.stoodInHeld 30=false:=by kernel_rfl
 have u3:=Tryz.underlying3
 have u9:=Tryz.underlying9
 have a3:=Tryz.isAgg3
 have z3:=Tryz.sizeOf3
 have a9:=Tryz.isAgg9
 have z9:=Tryz.sizeOf9
 rw [run_equalIn_agg w (d+1) 30 _ _ hS hp]
 simp only [Program.fieldsOf,Tryz.underlying30]
 go_simp
 unfold valSame
 by_cases h1:a=a' <;> by_cases h2:b=b' <;> by_cases h3:c=c' <;> by_cases h4:s=s' <;> simp [h1,h2,h3,h4]

theorem ses_eqIn (d:Nat) (k k':List UInt8) (i a b c i' a' b' c':Int) (s s':List UInt8) (w:World) :
  (Op.equalIn (d+1+1+1) 122 (.agg #[.string ⟨k.toArray⟩,.int .i64 i,.int .i64 a,.int .i64 b,.int .i64 c,.string ⟨s.toArray⟩]) (.agg #[.string ⟨k'.toArray⟩,.int .i64 i',.int .i64 a',.int .i64 b',.int .i64 c',.string ⟨s'.toArray⟩])).run Tryz.prog w=.ok (sesSame ⟨k,i,⟨a,b,c,s⟩⟩ ⟨k',i',⟨a',b',c',s'⟩⟩) w:=by
 have hS:Tryz.prog.underlying 122=some (.struct (Tryz.prog.fieldsOf 122)):=by kernel_rfl
 have hp:Tryz.prog.stoodInHeld 122=false:=by kernel_rfl
 have u3:=Tryz.underlying3
 have a3:=Tryz.isAgg3
 have z3:=Tryz.sizeOf3
 have u9:=Tryz.underlying9
 have a9:=Tryz.isAgg9
 have z9:=Tryz.sizeOf9
 have a35:=Tryz.isAgg30
 have z35:=Tryz.sizeOf30
 have hv:=fun w => val_eqInS d a b c a' b' c' s s' w
 rw [run_equalIn_agg w (d+1+1) 122 _ _ hS hp]
 simp only [Program.fieldsOf,Tryz.underlying122]
 clear hS hp
 go_simp
 unfold sesSame
 by_cases hk:k=k'
 ·subst hk
  by_cases hi:i=i'
  ·subst hi
   cases valSame ⟨a,b,c,s⟩ ⟨a',b',c',s'⟩ <;> simp
  ·simp [hi]
 ·simp [hk]

theorem ses_neq (k k':List UInt8) (i a b c i' a' b' c':Int) (s s':List UInt8) (w:World) :
  (binOp .neq 122 (.agg #[.string ⟨k.toArray⟩,.int .i64 i,.int .i64 a,.int .i64 b,.int .i64 c,.string ⟨s.toArray⟩]) (.agg #[.string ⟨k'.toArray⟩,.int .i64 i',.int .i64 a',.int .i64 b',.int .i64 c',.string ⟨s'.toArray⟩])).run Tryz.prog w=.ok (.bool (!sesSame ⟨k,i,⟨a,b,c,s⟩⟩ ⟨k',i',⟨a',b',c',s'⟩⟩)) w:=by
 rw [run_neq_struct,show (10000:Nat)=9997+1+1+1 from rfl,ses_eqIn 9997]
 rfl

theorem key_eqIn (d:Nat) (k k':List UInt8) (i i':Int) (w:World) :
  (Op.equalIn (d+1+1) 176 (.agg #[.string ⟨k.toArray⟩,.int .i64 i]) (.agg #[.string ⟨k'.toArray⟩,.int .i64 i'])).run Tryz.prog w=.ok (decide (k=k') && decide (i=i')) w:=by
 have hS:Tryz.prog.underlying 176=some (.struct (Tryz.prog.fieldsOf 176)):=by kernel_rfl
 have hp:Tryz.prog.stoodInHeld 176=false:=by kernel_rfl
 have u3:=Tryz.underlying3
 have u9:=Tryz.underlying9
 have a3:=Tryz.isAgg3
 have z3:=Tryz.sizeOf3
 have a9:=Tryz.isAgg9
 have z9:=Tryz.sizeOf9
 rw [run_equalIn_agg w (d+1) 176 _ _ hS hp]
 simp only [Program.fieldsOf,Tryz.underlying176]
 go_simp
 by_cases h1:k=k' <;> by_cases h2:i=i' <;> simp [h1,h2]

theorem key_eql (k k':List UInt8) (i i':Int) (w:World) :
  (binOp .eql 176 (.agg #[.string ⟨k.toArray⟩,.int .i64 i]) (.agg #[.string ⟨k'.toArray⟩,.int .i64 i'])).run Tryz.prog w=.ok (.bool (decide (k=k') && decide (i=i'))) w:=by
 rw [run_eql_struct,show (10000:Nat)=9998+1+1 from rfl,key_eqIn 9998]
 rfl

end Go.Proofs.YtphfinlfabklmaaGreat

end

section

namespace Go.Proofs.YtphfinlfabklmaaGreat
open Go.ChangeShapes Go.WideShapes Go.ChangeAt Go.RowKit Go.Deep

theorem choose_S {α:Type} (zero:α) {n:Nat} {Q:Nat→α→Prop} (h:∀ i,i < n→∃ r,Q i r):∃ t:List α,t.length=n∧∀ i,i < n→Q i (t.getD i zero):=by
 induction n with
 | zero => exact⟨[],rfl,fun i hi => absurd hi (by omega)⟩
 | succ n ih =>
  obtain⟨t,hl,ht⟩:=ih fun i hi => h i (by omega)
  obtain⟨r,hr⟩:=h n (by omega)
  refine ⟨t ++ [r],by simp [hl],fun i hi => ?_⟩
  by_cases hin:i < n
  ·have:=ht i hin
   simp only [List.getD] at this ⊢
   rwa [List.getElem?_append_left (by omega)]
  ·obtain rfl:i=n:=by omega
   simp only [List.getD]
   rw [List.getElem?_append_right (by omega),hl]
   simpa using hr

theorem open_rdS {α:Type} {P:Program} {vals:α→List Value} {sz:Nat} {zero:α} {T S:TypeId} {Z:Value} {bytes:Nat} (D:RowOK P vals sz zero T S Z bytes) (hcells:P.cellsOf T=sz)
  {H:Type} {enc:TypeId × Value→H} {w:World} {base:Nat} {spare:Nat→Bool} {held:Bool} {ok:α→Prop}
  (helem:∀ fuel cs x,DataW.trod enc P w base spare held fuel T cs=some x→∃ r,cs=vals r∧ok r)
  {r:Reach} {b0:Nat} {v:Value} {d:DataW H} {p:List MemPlace} (hv:Value.okWide P w r b0 S v) (h:DataW.Trod enc P w base spare held S v d p) :
  ∃ t:List α,RdS vals sz zero w v t∧∀ r ∈ t,ok r:=by
 obtain⟨a,len,cap,rfl⟩:=okWide_slice D.under hv
 obtain⟨fuel,hf⟩:=h
 rcases open_slice D.under hf with ⟨hcs,_⟩ | ⟨x,l,c,m,n,D',Pl,hcs,_,hl,hm,hmm,_,hi⟩
 ·simp [Value.cells] at hcs
  obtain⟨rfl,rfl,rfl⟩:=hcs
  exact⟨[],rdS_nil w,by simp⟩
 ·simp [Value.cells] at hcs
  obtain⟨rfl,rfl,rfl⟩:=hcs
  have hlm:len≤m:=by rw [hmm]; split <;> omega
  rw [hcells] at hi
  obtain⟨t,htl,ht⟩:=choose_S zero (n:=len) (Q:=fun i r => (∀ j u,(vals r)[j]?=some u→w.cell? ((x.add (i * sz)).add j)=some u)∧ok r) (fun i hil => by
   obtain⟨cs',hc,htr⟩:=hi i (by omega)
   obtain⟨_,hcl,hat⟩:=World.cells?_some hc
   obtain⟨r,rfl,w1⟩:=helem _ _ _ htr
   refine ⟨r,fun j u hu => ?_,w1⟩
   have hj:j < sz:=by have:=(List.getElem?_eq_some_iff.1 hu).1; rwa [D.len] at this
   rw [hat j hj,hu])
  refine ⟨t,⟨some x,cap,by rw [htl],by omega,by omega,(fun e => by cases e),?_⟩,fun r hr => ?_⟩
  ·by_cases h0:len=0
   ·exact .inl (List.length_eq_zero_iff.1 (by omega))
   ·obtain⟨b,off,spot⟩:=x
    have hne:0 < (vals (t.getD 0 zero)).length:=by rw [D.len]; exact D.pos
    have hc:=(ht 0 (by omega)).1 0 _ (List.getElem?_eq_getElem hne)
    have hspot:spot=none:=by simpa [Addr.add] using World.cell?_spot hc
    subst hspot
    refine .inr ⟨b,off,rfl,?_,fun i hil => fun j u hu => ?_⟩
    ·have:=World.block_lt_of_cell? w _ hc
     simpa [Addr.add] using this
    ·have:=(ht i (by omega)).1 j u hu
     rwa [Addr.add_lit,Addr.add_lit] at this
  ·obtain⟨i,hil,rfl⟩:=List.getElem_of_mem hr
   have:=(ht i (by omega)).2
   rwa [List.getD_eq_getElem?_getD,List.getElem?_eq_getElem hil] at this

end Go.Proofs.YtphfinlfabklmaaGreat

end

section

namespace Go.Proofs.YtphfinlfabklmaaGreat
open Go.ChangeShapes Go.WideShapes Go.ChangeAt Go.RowKit Go.Deep

structure RMov where
 k:Int
 u:List UInt8
 o:List UInt8

def RMov.zero:RMov:=⟨0,[],[]⟩

def rmovVals (m:RMov):List Value:=[.int .i64 m.k,.string ⟨m.u.toArray⟩,.string ⟨m.o.toArray⟩]

def rmovFit (m:RMov):Prop:=(Lit.int .i64 m.k).wf=true

section
variable {H:Type} {enc:TypeId × Value→H} {w:World} {base:Nat} {spare:Nat→Bool} {held:Bool}

theorem list5R {α:Type} {l:List α} (h:l.length=5):∃ a b c d e,l=[a,b,c,d,e]:=by
 match l,h with
 | [a,b,c,d,e],_ => exact⟨a,b,c,d,e,rfl⟩

theorem list7R {α:Type} {l:List α} (h:l.length=7):∃ a b c d e f g,l=[a,b,c,d,e,f,g]:=by
 match l,h with
 | [a,b,c,d,e,f,g],_ => exact⟨a,b,c,d,e,f,g,rfl⟩

theorem trod_boolR {fuel:Nat} {cs:List Value} {x:DataW H × List MemPlace} (h:DataW.trod enc Tryz.prog w base spare held fuel 4 cs=some x):∃ b,cs=[.bool b]:=by
 obtain⟨b,hb,_⟩:=DataW.trod_bool Tryz.underlying4 h
 exact⟨b,hb⟩

theorem trod_textR {fuel:Nat} {cs:List Value} {x:DataW H × List MemPlace} (h:DataW.trod enc Tryz.prog w base spare held fuel 9 cs=some x):∃ l:List UInt8,cs=[.string ⟨l.toArray⟩]:=by
 obtain⟨s,e,_,_⟩:=DataW.trod_string Tryz.underlying9 h
 exact⟨s.data.toList,by rw [e]⟩

theorem trod_itR {fuel:Nat} {cs:List Value} {x:DataW H × List MemPlace} (h:DataW.trod enc Tryz.prog w base spare held fuel 115 cs=some x) :
  ∃ v:It,cs=[.bool v.to,.bool v.fr,.bool v.out,.bool v.inn,.bool v.bl]:=by
 obtain⟨xs,n,_,_,hl,hx,hf⟩:=DataW.trod_struct Tryz.underlying115 h
 have c35:Tryz.prog.cellsOf 115=5:=by kernel_rfl
 have c3:Tryz.prog.cellsOf 4=1:=by kernel_rfl
 rw [c35] at hl
 obtain⟨a,b,c,d,e,rfl⟩:=list5R hl
 have get:∀ i,i < 5→xs[i]?=some (xs.getD i (.nil,[])):=fun i hi => by
  have:i < xs.length:=by rw [hx]; exact hi
  simp [List.getD,List.getElem?_eq_getElem this]
 have f0:DataW.trod enc Tryz.prog w base spare held n 4 (([a,b,c,d,e].drop 0).take (Tryz.prog.cellsOf 4))=some (xs.getD 0 (.nil,[])):=(hf 0 _ rfl).trans (get 0 (by omega))
 have f1:DataW.trod enc Tryz.prog w base spare held n 4 (([a,b,c,d,e].drop 1).take (Tryz.prog.cellsOf 4))=some (xs.getD 1 (.nil,[])):=(hf 1 _ rfl).trans (get 1 (by omega))
 have f2:DataW.trod enc Tryz.prog w base spare held n 4 (([a,b,c,d,e].drop 2).take (Tryz.prog.cellsOf 4))=some (xs.getD 2 (.nil,[])):=(hf 2 _ rfl).trans (get 2 (by omega))
 have f3:DataW.trod enc Tryz.prog w base spare held n 4 (([a,b,c,d,e].drop 3).take (Tryz.prog.cellsOf 4))=some (xs.getD 3 (.nil,[])):=(hf 3 _ rfl).trans (get 3 (by omega))
 have f4:DataW.trod enc Tryz.prog w base spare held n 4 (([a,b,c,d,e].drop 4).take (Tryz.prog.cellsOf 4))=some (xs.getD 4 (.nil,[])):=(hf 4 _ rfl).trans (get 4 (by omega))
 rw [c3] at f0 f1 f2 f3 f4
 obtain⟨z0,e0⟩:=trod_boolR f0
 obtain⟨z1,e1⟩:=trod_boolR f1
 obtain⟨z2,e2⟩:=trod_boolR f2
 obtain⟨z3,e3⟩:=trod_boolR f3
 obtain⟨z4,e4⟩:=trod_boolR f4
 simp at e0 e1 e2 e3 e4
 subst e0 e1 e2 e3 e4
 exact⟨⟨z0,z1,z2,z3,z4⟩,rfl⟩

theorem trod_entR (fuel:Nat) (cs:List Value) (x:DataW H × List MemPlace) (h:DataW.trod enc Tryz.prog w base spare held fuel 126 cs=some x) :
  ∃ s:Ent,cs=entVals s∧True:=by
 obtain⟨xs,n,_,_,hl,hx,hf⟩:=DataW.trod_struct Tryz.underlying126 h
 have c6:Tryz.prog.cellsOf 126=7:=by kernel_rfl
 have c4:Tryz.prog.cellsOf 115=5:=by kernel_rfl
 have c9:Tryz.prog.cellsOf 9=1:=by kernel_rfl
 rw [c6] at hl
 obtain⟨a,b,c,d,e,f,g,rfl⟩:=list7R hl
 have get:∀ i,i < 3→xs[i]?=some (xs.getD i (.nil,[])):=fun i hi => by
  have:i < xs.length:=by rw [hx]; exact hi
  simp [List.getD,List.getElem?_eq_getElem this]
 have f0:DataW.trod enc Tryz.prog w base spare held n 9 (([a,b,c,d,e,f,g].drop 0).take (Tryz.prog.cellsOf 9))=some (xs.getD 0 (.nil,[])):=(hf 0 _ rfl).trans (get 0 (by omega))
 have f1:DataW.trod enc Tryz.prog w base spare held n 9 (([a,b,c,d,e,f,g].drop 1).take (Tryz.prog.cellsOf 9))=some (xs.getD 1 (.nil,[])):=(hf 1 _ rfl).trans (get 1 (by omega))
 have f2:DataW.trod enc Tryz.prog w base spare held n 115 (([a,b,c,d,e,f,g].drop 2).take (Tryz.prog.cellsOf 115))=some (xs.getD 2 (.nil,[])):=(hf 2 _ rfl).trans (get 2 (by omega))
 rw [c9] at f0 f1
 rw [c4] at f2
 obtain⟨u,e0⟩:=trod_textR f0
 obtain⟨z,e1⟩:=trod_textR f1
 obtain⟨v,e2⟩:=trod_itR f2
 simp at e0 e1 e2
 obtain⟨rfl,rfl,rfl,rfl,rfl⟩:=e2
 subst e0 e1
 exact⟨⟨u,z,v⟩,rfl,trivial⟩

def RMovsAt (w:World) (v:Value) (l:List RMov):Prop:=RdS rmovVals 3 RMov.zero w v l∧∀ m ∈ l,rmovFit m

end

end Go.Proofs.YtphfinlfabklmaaGreat

end

section

namespace Go.Proofs.YtphfinlfabklmaaGreat
open Ieee

theorem cut_zero (neg:Bool) (n:Nat):Toward.even.cut neg n 0=n:=by
 simp [Toward.cut,Nat.mod_one]

theorem cut_exact (neg:Bool) (n drop:Nat) (h:drop≤n.log2+2) (hd:2 ^ drop ∣ n):Toward.even.cut neg n drop=n / 2 ^ drop:=by
 have h0:0 < 2 ^ drop:=Nat.two_pow_pos _
 unfold Toward.cut
 rw [Nat.min_eq_left h,Nat.one_shiftLeft]
 simp only [Nat.mod_eq_zero_of_dvd hd,Nat.mul_zero]
 have h1:¬ 2 ^ drop < 0:=by omega
 have h2:(2 ^ drop == 0)=false:=by simp
 simp [h2]

theorem cut_pos (neg:Bool) (n drop:Nat) (h:2 ^ drop≤n):1≤Toward.even.cut neg n drop:=by
 have h0:0 < 2 ^ drop:=Nat.two_pow_pos _
 have hl:drop≤n.log2+2:=by
  have h1:n ≠ 0:=by omega
  have h2:=(Nat.le_log2 h1).2 h
  omega
 unfold Toward.cut
 rw [Nat.min_eq_left hl,Nat.one_shiftLeft]
 have h3:1≤n / 2 ^ drop:=(Nat.le_div_iff_mul_le h0).2 (by omega)
 simp only
 exact Nat.le_trans h3 (Nat.le_add_right _ _)

theorem read_word (neg:Bool) (r:Nat) (h:r≤9218868437227405312):double.read (double.word neg r) =
  if r < 4503599627370496 then .number neg r (-1074) else if r < 9218868437227405312 then .number neg (4503599627370496+r % 4503599627370496) (-1074+(r / 4503599627370496 - 1:Nat)) else .infinity neg:=by
 have e1:double.signWeight=9223372036854775808:=by rfl
 have e2:double.binade=4503599627370496:=by rfl
 have e3:double.infRung=9218868437227405312:=by rfl
 have e4:double.leastPlace=-1074:=by rfl
 unfold Format.read Format.word
 rw [e1,e2,e3,e4]
 have q1:((if neg=true then 9223372036854775808+r else r) / 9223372036854775808 % 2 == 1)=neg:=by
  cases neg
  ·have:r / 9223372036854775808=0:=by omega
   simp [this]
  ·have:(9223372036854775808+r) / 9223372036854775808=1:=by omega
   simp [this]
 have q2:(if neg=true then 9223372036854775808+r else r) % 9223372036854775808=r:=by
  cases neg <;> simp <;> omega
 simp only [q1,q2]
 by_cases h1:r < 4503599627370496
 ·rw [if_pos h1,if_pos h1]
 ·rw [if_neg h1,if_neg h1]
  by_cases h2:r < 9218868437227405312
  ·rw [if_pos h2,if_pos h2]
  ·rw [if_neg h2,if_neg h2,if_pos (by omega)]

def sgn (neg:Bool) (n:Nat):Int:=if neg then -(n:Int) else (n:Int)

theorem signed_sgn (neg:Bool) (m up:Nat):signed neg m up=sgn neg (m * 2 ^ up):=by
 unfold signed sgn
 rw [Nat.shiftLeft_eq]

def Has (b:Nat) (v:Int):Prop:=∃ (s:Bool) (m P:Nat),double.read b=.number s m ((P:Int) - 1074)∧m < 9007199254740992∧P≤2046∧v=sgn s (m * 2 ^ P)

theorem nearest_rung (neg:Bool) (m P:Nat) (hm:m ≠ 0) :
  ∃ kept,double.nearest neg m ((P:Int) - 1074)=double.word neg (min ((P+m.log2 - 52) * 4503599627370496+kept) 9218868437227405312)∧1≤kept∧(2 ^ (P+m.log2 - 52) ∣ m * 2 ^ P→kept * 2 ^ (P+m.log2 - 52)=m * 2 ^ P):=by
 have e2:double.binade=4503599627370496:=by rfl
 have e3:double.infRung=9218868437227405312:=by rfl
 have e4:double.leastPlace=-1074:=by rfl
 have e5:(double.fractionBits:Int)=52:=by rfl
 have hE:max ((P:Int) - 1074+(m.log2:Int) - 52) (-1074)=((P+m.log2 - 52:Nat):Int) - 1074:=by omega
 obtain⟨d,hd⟩ : ∃ d,d=m.log2:=⟨_,rfl⟩
 obtain⟨E,hEe⟩ : ∃ E,E=P+d - 52:=⟨_,rfl⟩
 have h2d:2 ^ d≤m:=by rw [hd]; exact Nat.log2_self_le hm
 unfold Format.nearest
 rw [if_neg hm]
 simp only
 rw [e4,e5,e2,e3,hE,← hd,← hEe]
 have p1:((P:Int) - 1074 - ((E:Int) - 1074)).toNat=P - E:=by omega
 have p2:((E:Int) - 1074 - ((P:Int) - 1074)).toNat=E - P:=by omega
 have p3:((E:Int) - 1074 - (-1074)).toNat=E:=by omega
 rw [p1,p2,p3]
 refine ⟨_,rfl,?_,?_⟩
 ·by_cases h:E≤P
  ·rw [show E - P=0 by omega,cut_zero,Nat.shiftLeft_eq]
   exact Nat.mul_pos (by omega) (Nat.two_pow_pos _)
  ·refine cut_pos _ _ _ ?_
   rw [show P - E=0 by omega,Nat.shiftLeft_zero]
   exact Nat.le_trans (Nat.pow_le_pow_right (by decide) (by omega)) h2d
 ·intro hv
  by_cases h:E≤P
  ·rw [show E - P=0 by omega,cut_zero,Nat.shiftLeft_eq,Nat.mul_assoc,← Nat.pow_add,show P - E+E=P by omega]
  ·rw [show P - E=0 by omega,Nat.shiftLeft_zero]
   have hs:2 ^ E=2 ^ (E - P) * 2 ^ P:=by rw [← Nat.pow_add,show E - P+P=E by omega]
   have hdv:2 ^ (E - P) ∣ m:=by
    rw [hs] at hv
    exact Nat.dvd_of_mul_dvd_mul_right (Nat.two_pow_pos P) hv
   rw [cut_exact _ _ _ (by rw [← hd]; omega) hdv,hs,← Nat.mul_assoc,Nat.div_mul_cancel hdv]

theorem nearest_has (neg:Bool) (m P n q:Nat) (hn:n < 9007199254740992) (hq:q≤1800) (h:m * 2 ^ P=n * 2 ^ q):Has (double.nearest neg m ((P:Int) - 1074)) (sgn neg (m * 2 ^ P)):=by
 by_cases hm:m=0
 ·subst hm
  refine ⟨neg,0,0,?_,by decide,by decide,by simp⟩
  have:double.nearest neg 0 ((P:Int) - 1074)=double.word neg 0:=by unfold Format.nearest; rw [if_pos rfl]
  rw [this,read_word _ _ (by decide)]
  rfl
 ·obtain⟨kept,e,h1,h2⟩:=nearest_rung neg m P hm
  obtain⟨d,hd⟩ : ∃ d,d=m.log2:=⟨_,rfl⟩
  obtain⟨E,hEe⟩ : ∃ E,E=P+d - 52:=⟨_,rfl⟩
  rw [← hd,← hEe] at e h2
  have g1:2 ^ d≤m:=by rw [hd]; exact Nat.log2_self_le hm
  have g2:m < 2 ^ (d+1):=by rw [hd]; exact Nat.lt_log2_self
  have g3:2 ^ (d+P)≤m * 2 ^ P:=by rw [Nat.pow_add]; exact Nat.mul_le_mul_right _ g1
  have g4:m * 2 ^ P < 2 ^ (d+1+P):=by rw [Nat.pow_add]; exact Nat.mul_lt_mul_of_pos_right g2 (Nat.two_pow_pos _)
  have g5:m * 2 ^ P < 2 ^ (53+q):=by rw [h,Nat.pow_add]; exact Nat.mul_lt_mul_of_pos_right (by simpa using hn) (Nat.two_pow_pos _)
  have g6:d+P < 53+q:=(Nat.pow_lt_pow_iff_right (by decide)).1 (Nat.lt_of_le_of_lt g3 g5)
  have g7:2 ^ E ∣ m * 2 ^ P:=by
   rw [h,show q=(q - E)+E by omega,Nat.pow_add,← Nat.mul_assoc]
   exact Nat.dvd_mul_left _ _
  have hk:=h2 g7
  have k1:kept < 9007199254740992:=by
   have:kept * 2 ^ E < 2 ^ 53 * 2 ^ E:=by
    rw [hk,← Nat.pow_add]
    exact Nat.lt_of_lt_of_le g4 (Nat.pow_le_pow_right (by decide) (by omega))
   simpa using Nat.lt_of_mul_lt_mul_right this
  have k2:0 < E→4503599627370496≤kept:=by
   intro hE
   have:2 ^ 52 * 2 ^ E≤kept * 2 ^ E:=by
    rw [hk,← Nat.pow_add]
    exact Nat.le_trans (Nat.pow_le_pow_right (by decide) (by omega)) g3
   simpa using Nat.le_of_mul_le_mul_right this (Nat.two_pow_pos E)
  have k3:E * 4503599627370496+kept < 9218868437227405312:=by omega
  rw [Nat.min_eq_left (Nat.le_of_lt k3)] at e
  refine ⟨neg,kept,E,?_,k1,by omega,by rw [hk]⟩
  rw [e,read_word _ _ (Nat.le_of_lt k3)]
  by_cases c:E * 4503599627370496+kept < 4503599627370496
  ·have hE0:E=0:=by omega
   rw [if_pos c]
   subst hE0
   simp
  ·rw [if_neg c,if_pos k3]
   have c1:(E * 4503599627370496+kept) / 4503599627370496 - 1=E:=by
    by_cases hE:0 < E
    ·have:=k2 hE; omega
    ·omega
   have c2:4503599627370496+(E * 4503599627370496+kept) % 4503599627370496=kept:=by
    by_cases hE:0 < E
    ·have:=k2 hE; omega
    ·omega
   rw [c1,c2]
   congr 1

def Stands (b:Nat) (v:Int):Prop:=double.order b 0=some (compare v 0)∧double.order b b=some .eq

theorem compare_sgn (neg:Bool) (n:Nat) (h:0 < n):compare (sgn neg n) 0=if neg then .lt else .gt:=by
 unfold sgn
 cases neg
 ·simp only [Bool.false_eq_true,if_false]
  rw [Int.compare_eq_gt]
  omega
 ·simp only [if_true]
  rw [Int.compare_eq_lt]
  omega

theorem read_zero:double.read 0=.number false 0 (-1074):=by rfl

theorem stands_number {b:Nat} {s:Bool} {m P:Nat} (h:double.read b=.number s m ((P:Int) - 1074)):Stands b (sgn s (m * 2 ^ P)):=by
 unfold Stands Format.order
 rw [h,read_zero]
 unfold Datum.order
 simp only
 rw [signed_sgn,signed_sgn,signed_sgn]
 have e1:((P:Int) - 1074 - min ((P:Int) - 1074) (-1074)).toNat=P:=by omega
 refine ⟨?_,?_⟩
 ·rw [e1]
  congr 2
  unfold sgn
  simp
 ·congr 1
  exact Int.compare_eq_eq.2 rfl

theorem nearest_stands (neg:Bool) (m P:Nat):Stands (double.nearest neg m ((P:Int) - 1074)) (sgn neg (m * 2 ^ P)):=by
 by_cases hm:m=0
 ·subst hm
  have:double.nearest neg 0 ((P:Int) - 1074)=double.word neg 0:=by unfold Format.nearest; rw [if_pos rfl]
  rw [this]
  have hr:=read_word neg 0 (by decide)
  rw [if_pos (by decide)] at hr
  have:=stands_number (P:=0) hr
  simpa using this
 ·obtain⟨kept,e,h1,-⟩:=nearest_rung neg m P hm
  rw [e]
  have hpos:0 < m * 2 ^ P:=Nat.mul_pos (by omega) (Nat.two_pow_pos _)
  generalize hr:min ((P+m.log2 - 52) * 4503599627370496+kept) 9218868437227405312=r
  have r1:0 < r:=by omega
  have r2:r≤9218868437227405312:=by omega
  have hw:=read_word neg r r2
  have hs:∀ {n:Nat},0 < n→compare (sgn neg n) 0=compare (sgn neg (m * 2 ^ P)) 0:=by
   intro n hn
   rw [compare_sgn _ _ hn,compare_sgn _ _ hpos]
  by_cases c:r < 4503599627370496
  ·rw [if_pos c] at hw
   have:=stands_number (P:=0) hw
   unfold Stands at this ⊢
   rw [← hs (n:=r * 2 ^ 0) (by simpa using r1)]
   exact this
  ·rw [if_neg c] at hw
   by_cases c2:r < 9218868437227405312
   ·rw [if_pos c2,show (-1074+((r / 4503599627370496 - 1:Nat):Int))=((r / 4503599627370496 - 1:Nat):Int) - 1074 by omega] at hw
    have:=stands_number hw
    unfold Stands at this ⊢
    rw [← hs (n:=(4503599627370496+r % 4503599627370496) * 2 ^ (r / 4503599627370496 - 1)) (Nat.mul_pos (by omega) (Nat.two_pow_pos _))]
    exact this
   ·rw [if_neg c2] at hw
    unfold Stands Format.order
    rw [hw,read_zero,compare_sgn _ _ hpos]
    unfold Datum.order
    simp only
    refine ⟨by cases neg <;> first | rfl | trivial,by cases neg <;> first | rfl | trivial⟩

theorem sgn_natAbs (s:Bool) (t:Int):sgn (if t=0 then s else decide (t < 0)) t.natAbs=t:=by
 unfold sgn
 by_cases h:t=0
 ·subst h
  simp
 ·rw [if_neg h]
  by_cases h2:t < 0
  ·simp only [h2,decide_true,if_true]; omega
  ·simp only [h2,decide_false,Bool.false_eq_true,if_false]; omega

theorem sgn_mul (s:Bool) (n k:Nat):sgn s (n * k)=sgn s n * k:=by
 unfold sgn
 cases s
 ·simp
 ·simp [Int.neg_mul]

theorem sum_raw {x y:Nat} {a b:Int} (hx:Has x a) (hy:Has y b):∃ s m P,double.add x y=some (double.nearest s m ((P:Nat) - 1074:Int))∧sgn s (m * 2 ^ P)=a+b:=by
 obtain⟨s,m,P,e1,-,-,rfl⟩:=hx
 obtain⟨t,n,R,e2,-,-,rfl⟩:=hy
 unfold Format.add
 rw [e1,e2]
 simp only [Datum.sum,Option.map_some,Format.write]
 have e3:min ((P:Int) - 1074) ((R:Int) - 1074)=((min P R:Nat):Int) - 1074:=by omega
 rw [e3,signed_sgn,signed_sgn]
 have e4:((P:Int) - 1074 - (((min P R:Nat):Int) - 1074)).toNat=P - min P R:=by omega
 have e5:((R:Int) - 1074 - (((min P R:Nat):Int) - 1074)).toNat=R - min P R:=by omega
 rw [e4,e5]
 refine ⟨_,_,_,rfl,?_⟩
 rw [sgn_mul,sgn_natAbs,Int.add_mul,← sgn_mul,← sgn_mul,Nat.mul_assoc,Nat.mul_assoc,← Nat.pow_add,← Nat.pow_add,show P - min P R+min P R=P by omega,show R - min P R+min P R=R by omega]

theorem has_opposite {y:Nat} {b:Int} (h:Has y b):∃ (s:Bool) (m P:Nat),(double.read y).opposite=.number s m ((P:Int) - 1074)∧m < 9007199254740992∧P≤2046∧-b=sgn s (m * 2 ^ P):=by
 obtain⟨s,m,P,e,h1,h2,rfl⟩:=h
 refine ⟨!s,m,P,by rw [e]; rfl,h1,h2,?_⟩
 unfold sgn
 cases s <;> simp

theorem sub_raw {x y:Nat} {a b:Int} (hx:Has x a) (hy:Has y b):∃ s m P,double.sub x y=some (double.nearest s m ((P:Nat) - 1074:Int))∧sgn s (m * 2 ^ P)=a - b:=by
 obtain⟨s,m,P,e1,-,-,rfl⟩:=hx
 obtain⟨t,n,R,e2,-,-,hb⟩:=has_opposite hy
 unfold Format.sub
 rw [e1,e2]
 simp only [Datum.sum,Option.map_some,Format.write]
 have e3:min ((P:Int) - 1074) ((R:Int) - 1074)=((min P R:Nat):Int) - 1074:=by omega
 rw [e3,signed_sgn,signed_sgn]
 have e4:((P:Int) - 1074 - (((min P R:Nat):Int) - 1074)).toNat=P - min P R:=by omega
 have e5:((R:Int) - 1074 - (((min P R:Nat):Int) - 1074)).toNat=R - min P R:=by omega
 rw [e4,e5]
 refine ⟨_,_,_,rfl,?_⟩
 rw [sgn_mul,sgn_natAbs,Int.add_mul,← sgn_mul,← sgn_mul,Nat.mul_assoc,Nat.mul_assoc,← Nat.pow_add,← Nat.pow_add,show P - min P R+min P R=P by omega,show R - min P R+min P R=R by omega,← hb]
 rfl

theorem natAbs_two (k:Nat):((2:Int) ^ k).natAbs=2 ^ k:=by
 rw [Int.natAbs_pow]
 rfl

theorem cast_two (k:Nat):((2 ^ k:Nat):Int)=(2:Int) ^ k:=Int.natCast_pow 2 k

theorem sgn_nil (s:Bool):sgn s 0=0:=by cases s <;> rfl

theorem natAbs_sgn (s:Bool) (n:Nat):(sgn s n).natAbs=n:=by
 unfold sgn
 cases s <;> simp

def Whole (i:Int):Prop:=∃ n k:Nat,n < 9007199254740992∧k≤700∧i.natAbs=n * 2 ^ k

def IsF (b:Nat) (i:Int):Prop:=Has b (i * 2 ^ 1074)

theorem has_round {s:Bool} {m P:Nat} {i:Int} (h:sgn s (m * 2 ^ P)=i * 2 ^ 1074) (hw:Whole i):IsF (double.nearest s m ((P:Nat) - 1074:Int)) i:=by
 obtain⟨n,k,h1,h2,h3⟩:=hw
 have:=nearest_has s m P n (k+1074) h1 (by omega) (by
  have e:=congrArg Int.natAbs h
  rw [natAbs_sgn,Int.natAbs_mul,h3] at e
  rw [e,natAbs_two,Nat.pow_add,← Nat.mul_assoc])
 rw [h] at this
 exact this

theorem add_whole {x y:Nat} {a b:Int} (hx:IsF x a) (hy:IsF y b) (hw:Whole (a+b)):∃ r,double.add x y=some r∧IsF r (a+b):=by
 obtain⟨s,m,P,e,h⟩:=sum_raw hx hy
 exact⟨_,e,has_round (by rw [h,Int.add_mul]) hw⟩

theorem sub_whole {x y:Nat} {a b:Int} (hx:IsF x a) (hy:IsF y b) (hw:Whole (a - b)):∃ r,double.sub x y=some r∧IsF r (a - b):=by
 obtain⟨s,m,P,e,h⟩:=sub_raw hx hy
 exact⟨_,e,has_round (by rw [h,Int.sub_mul]) hw⟩

theorem compare_scale (i:Int):compare (i * 2 ^ 1074) 0=compare i 0:=by
 have hp:(0:Int) < 2 ^ 1074:=Int.pow_pos (by decide)
 rcases Int.lt_trichotomy i 0 with h | h | h
 ·rw [Int.compare_eq_lt.2 h,Int.compare_eq_lt.2 (Int.mul_neg_of_neg_of_pos h hp)]
 ·subst h; rw [Int.zero_mul]
 ·rw [Int.compare_eq_gt.2 h,Int.compare_eq_gt.2 (Int.mul_pos h hp)]

theorem add_stands {x y:Nat} {a b:Int} (hx:IsF x a) (hy:IsF y b):∃ r,double.add x y=some r∧Stands r (a+b):=by
 obtain⟨s,m,P,e,h⟩:=sum_raw hx hy
 refine ⟨_,e,?_⟩
 have:=nearest_stands s m P
 rw [h,← Int.add_mul] at this
 unfold Stands at this ⊢
 rwa [compare_scale] at this

theorem int_whole {i:Int} (h1:-9007199254740992 < i) (h2:i < 9007199254740992):Whole i:=⟨i.natAbs,0,by omega,by decide,by simp⟩

theorem ofInt_is {i:Int} (h1:-9007199254740992 < i) (h2:i < 9007199254740992):IsF (floatOfInt .f64 i) i:=by
 show IsF (double.nearest (decide (i < 0)) i.natAbs 0) i
 have:=has_round (s:=decide (i < 0)) (m:=i.natAbs) (P:=1074) (i:=i) (by
  refine (sgn_mul _ _ _).trans ?_
  refine (congrArg (sgn (decide (i < 0)) i.natAbs * ·) (cast_two 1074)).trans ?_
  refine congrArg (· * (2:Int) ^ 1074) ?_
  unfold sgn
  by_cases h:i < 0
  ·simp only [h,decide_true,if_true]; omega
  ·simp only [h,decide_false,Bool.false_eq_true,if_false]; omega) (int_whole h1 h2)
 exact this

theorem mul_up {x:Nat} {a:Int} (hx:IsF x a) (h1:-9007199254740992 < a) (h2:a < 9007199254740992):∃ r,double.mul x 4751297606875873280=some r∧IsF r (a * 4294967296):=by
 obtain⟨s,m,P,e1,h3,h4,h5⟩:=hx
 have e2:double.read 4751297606875873280=.number false 4503599627370496 (-20):=by rfl
 have hw:Whole (a * 4294967296):=⟨a.natAbs,32,by omega,by decide,by rw [Int.natAbs_mul]; rfl⟩
 unfold Format.mul
 rw [e1,e2]
 simp only [Datum.product,Option.map_some,Format.write,Bool.xor_false]
 refine ⟨_,rfl,?_⟩
 by_cases hm:m=0
 ·subst hm
  have ha:a=0:=by
   have hp:(0:Int) < 2 ^ 1074:=Int.pow_pos (by decide)
   unfold sgn at h5
   simp only [Nat.zero_mul,Int.ofNat_zero,Int.neg_zero,ite_self] at h5
   rcases Int.mul_eq_zero.1 h5 with h | h
   ·exact h
   ·omega
  subst ha
  rw [Nat.zero_mul]
  have:=nearest_has s 0 0 0 0 (by decide) (by decide) rfl
  have e:double.nearest s 0 ((P:Int) - 1074+-20)=double.nearest s 0 (((0:Nat):Int) - 1074):=by
   unfold Format.nearest
   rw [if_pos rfl,if_pos rfl]
  rw [e]
  unfold IsF
  have e0:sgn s (0 * 2 ^ 0)=0 * 4294967296 * 2 ^ 1074:=by rw [Int.zero_mul,Int.zero_mul,Nat.zero_mul,sgn_nil]
  rwa [e0] at this
 ·have hP:20≤P:=by
   have hab:=congrArg Int.natAbs h5
   rw [natAbs_sgn,Int.natAbs_mul,natAbs_two] at hab
   have ha:a.natAbs ≠ 0:=by
    intro h0
    have hz:∀ V:Nat,a.natAbs * V=m * 2 ^ P→False:=by
     intro V e
     rw [h0,Nat.zero_mul] at e
     have h9:=Nat.mul_pos (Nat.pos_of_ne_zero hm) (Nat.two_pow_pos P)
     omega
    exact hz _ hab
   have q1:2 ^ 1074≤m * 2 ^ P:=by
    rw [← hab]
    have hp:∀ V:Nat,V≤a.natAbs * V:=fun V => Nat.le_mul_of_pos_left V (Nat.pos_of_ne_zero ha)
    exact hp _
   have q2:m * 2 ^ P < 2 ^ 53 * 2 ^ P:=Nat.mul_lt_mul_of_pos_right (by simpa using h3) (Nat.two_pow_pos _)
   rw [← Nat.pow_add] at q2
   have:=(Nat.pow_lt_pow_iff_right (by decide)).1 (Nat.lt_of_le_of_lt q1 q2)
   omega
  rw [show (P:Int) - 1074+-20=((P - 20:Nat):Int) - 1074 by omega]
  refine has_round ?_ hw
  rw [Nat.mul_assoc,show 4503599627370496=2 ^ 52 from rfl,← Nat.pow_add,show 52+(P - 20)=P+32 by omega,Nat.pow_add,← Nat.mul_assoc,sgn_mul,← h5,Int.mul_assoc,Int.mul_assoc,Int.mul_comm (2 ^ 1074)]
  rfl

theorem mul_nil {x:Nat} {a:Int} (hx:IsF x a):∃ r,double.mul x 0=some r∧IsF r 0:=by
 obtain⟨s,m,P,e1,-,-,-⟩:=hx
 unfold Format.mul
 rw [e1,read_zero]
 simp only [Datum.product,Option.map_some,Format.write,Nat.mul_zero,Bool.xor_false]
 refine ⟨_,rfl,?_⟩
 have:=nearest_has s 0 0 0 0 (by decide) (by decide) rfl
 have e:double.nearest s 0 ((P:Int) - 1074+-1074)=double.nearest s 0 (((0:Nat):Int) - 1074):=by
  unfold Format.nearest
  rw [if_pos rfl,if_pos rfl]
 rw [e]
 unfold IsF
 have e0:sgn s (0 * 2 ^ 0)=0 * 2 ^ 1074:=by rw [Int.zero_mul,Nat.zero_mul,sgn_nil]
 rwa [e0] at this

end Go.Proofs.YtphfinlfabklmaaGreat

end

section

namespace Go.Proofs.YtphfinlfabklmaaGreat

structure Sl where
 id:Int
 r0:Int
 r1:Int
 r2:Int
deriving DecidableEq

def Sl.zero:Sl:=⟨0,0,0,0⟩

def slBet (a b:Sl):Bool :=
 if a.r0=b.r0 then (if a.r1=b.r1 then (if a.r2=b.r2 then decide (a.id < b.id) else decide (b.r2 < a.r2)) else decide (b.r1 < a.r1)) else decide (b.r0 < a.r0)

theorem slBet_iff (a b:Sl):slBet a b=true ↔ (b.r0 < a.r0∨(a.r0=b.r0∧(b.r1 < a.r1∨(a.r1=b.r1∧(b.r2 < a.r2∨(a.r2=b.r2∧a.id < b.id)))))):=by
 unfold slBet
 by_cases h0:a.r0=b.r0
 ·rw [if_pos h0]
  by_cases h1:a.r1=b.r1
  ·rw [if_pos h1]
   by_cases h2:a.r2=b.r2
   ·rw [if_pos h2,decide_eq_true_eq]; omega
   ·rw [if_neg h2,decide_eq_true_eq]; omega
  ·rw [if_neg h1,decide_eq_true_eq]; omega
 ·rw [if_neg h0,decide_eq_true_eq]; omega

theorem slBet_no (a b:Sl):slBet a b=false ↔ ¬ (b.r0 < a.r0∨(a.r0=b.r0∧(b.r1 < a.r1∨(a.r1=b.r1∧(b.r2 < a.r2∨(a.r2=b.r2∧a.id < b.id)))))):=by
 rw [← slBet_iff,Bool.not_eq_true]

theorem slBet_irrefl (a:Sl):slBet a a=false:=by rw [slBet_no]; omega

def at0 (l:List Sl) (i:Nat):Sl:=l.getD i Sl.zero

theorem at0_get {l:List Sl} {i:Nat} (h:i < l.length):at0 l i=l[i]:=by
 unfold at0; rw [List.getD_eq_getElem?_getD,List.getElem?_eq_getElem h]; rfl

def par (i:Nat):Nat:=(i - 1) / 2

def HeapOK (l:List Sl):Prop:=∀ i,0 < i→i < l.length→slBet (at0 l i) (at0 l (par i))=false

def Off (l:List Sl) (a:Nat):Prop :=
 (∀ i,0 < i→i < l.length→i ≠ a→par i ≠ a→slBet (at0 l i) (at0 l (par i))=false) ∧
 ∀ c,0 < c→c < l.length→par c=a→0 < a→slBet (at0 l c) (at0 l (par a))=false

def Sunk (l:List Sl) (a:Nat):Prop:=Off l a∧(0 < a→slBet (at0 l a) (at0 l (par a))=false)

def swp (l:List Sl) (i j:Nat):List Sl:=(l.set i (at0 l j)).set j (at0 l i)

def Once (l:List Sl):Prop:=(l.map Sl.id).Nodup

def spot (l:List Sl) (id:Int):Option Nat:=l.findIdx? fun s => decide (s.id=id)

end Go.Proofs.YtphfinlfabklmaaGreat

end

section

namespace Go.Proofs.YtphfinlfabklmaaGreat

def besSlot (s:Ses):Sl:=⟨s.id,s.v.pr,s.v.si,0⟩
def besShown (s:Ses):Sl:=⟨s.id,s.v.sh,s.v.pr,s.v.si⟩

abbrev sat (l:List Ses) (i:Nat):Ses:=l.getD i Ses.zero

theorem sgetDB {l:List Ses} {i:Nat} (h:i < l.length):l.getD i Ses.zero=l[i]:=by
 rw [List.getD_eq_getElem?_getD,List.getElem?_eq_getElem h]
 rfl

def sbet (a b:Ses):Bool:=slBet (besSlot a) (besSlot b)

def bst (l:List Ses):Nat→Ses
 | 0 => sat l 0
 | k+1 => if sbet (sat l (k+1)) (bst l k)=true then sat l (k+1) else bst l k

def besOf (l:List Ses):Ses:=bst l (l.length - 1)

def shTo (l:List Ses) (v:Int):Nat→Int
 | 0 => v
 | k+1 => max (shTo l v k) (sat l k).v.sh

def besV (l:List Ses):Val:=⟨shTo l (besOf l).v.sh l.length,(besOf l).v.pr,(besOf l).v.si,(besOf l).v.st⟩

def worth (a b:Val):Int:=if a.sh < b.sh then -1 else if b.sh < a.sh then 1 else if a.pr < b.pr then -1 else if b.pr < a.pr then 1 else 0

theorem shTo_next (l:List Ses) (v:Int) (k:Nat):shTo l v (k+1)=if shTo l v k < (sat l k).v.sh then (sat l k).v.sh else shTo l v k:=by
 show max _ _=_
 split <;> omega

theorem sbet_iff (a b:Ses):sbet a b=true ↔ (b.v.pr < a.v.pr∨(a.v.pr=b.v.pr∧(b.v.si < a.v.si∨(a.v.si=b.v.si∧a.id < b.id)))):=by
 unfold sbet
 rw [slBet_iff]
 simp [besSlot]

theorem sbet_no (a b:Ses):sbet a b=false ↔ ¬ (b.v.pr < a.v.pr∨(a.v.pr=b.v.pr∧(b.v.si < a.v.si∨(a.v.si=b.v.si∧a.id < b.id)))):=by
 rw [← sbet_iff,Bool.not_eq_true]

theorem bst_spec (l:List Ses):∀ k,∃ j,j≤k∧bst l k=sat l j∧(∀ i,i≤k→sbet (sat l i) (sat l j)=false)∧∀ i,i < j→sbet (sat l j) (sat l i)=true:=by
 intro k
 induction k with
 | zero =>
  refine ⟨0,Nat.le_refl _,rfl,fun i hi => ?_,fun i hi => by omega⟩
  obtain rfl:i=0:=by omega
  exact slBet_irrefl _
 | succ k ih =>
  obtain⟨j,h1,h2,h3,h4⟩:=ih
  unfold bst
  by_cases hb:sbet (sat l (k+1)) (bst l k)=true
  ·rw [if_pos hb]
   rw [h2] at hb
   refine ⟨k+1,Nat.le_refl _,rfl,fun i hi => ?_,fun i hi => ?_⟩
   ·by_cases e:i=k+1
    ·subst e; exact slBet_irrefl _
    ·have:=h3 i (by omega)
     rw [sbet_no] at *
     rw [sbet_iff] at hb
     omega
   ·have:=h3 i (by omega)
    rw [sbet_no] at this
    rw [sbet_iff] at *
    omega
  ·rw [if_neg hb]
   have hb':sbet (sat l (k+1)) (bst l k)=false:=by simpa using hb
   rw [h2] at hb'
   refine ⟨j,by omega,h2,fun i hi => ?_,h4⟩
   by_cases e:i=k+1
   ·subst e; exact hb'
   ·exact h3 i (by omega)

theorem besOf_spec {l:List Ses} (h:0 < l.length):∃ j,j < l.length∧besOf l=sat l j∧(∀ i,i < l.length→sbet (sat l i) (sat l j)=false)∧∀ i,i < j→sbet (sat l j) (sat l i)=true:=by
 obtain⟨j,h1,h2,h3,h4⟩:=bst_spec l (l.length - 1)
 exact⟨j,by omega,h2,fun i hi => h3 i (by omega),h4⟩

theorem shTo_spec (l:List Ses) (v:Int):∀ n,v≤shTo l v n∧(∀ i,i < n→(sat l i).v.sh≤shTo l v n)∧(shTo l v n=v∨∃ i,i < n∧shTo l v n=(sat l i).v.sh):=by
 intro n
 induction n with
 | zero => exact⟨Int.le_refl _,fun i hi => by omega,.inl rfl⟩
 | succ n ih =>
  obtain⟨h1,h2,h3⟩:=ih
  unfold shTo
  refine ⟨by omega,fun i hi => ?_,?_⟩
  ·by_cases e:i=n
   ·subst e; omega
   ·have:=h2 i (by omega); omega
  ·by_cases hm:shTo l v n≤(sat l n).v.sh
   ·exact .inr ⟨n,by omega,by omega⟩
   ·rcases h3 with h | ⟨i,hi,h⟩
    ·exact .inl (by omega)
    ·exact .inr ⟨i,by omega,by omega⟩

/-! ### Numbers in halves -/

def sgI (i:Int):Int:=if i < 0 then -1 else if 0 < i then 1 else 0

def orB (x y:Int):Int:=if x=0 then y else x

def lead2 (m n m' n':Int):Int:=orB (sgI (m - m')) (sgI (n - n'))

theorem sgI_cases (i:Int):(i < 0∧sgI i=-1)∨(i=0∧sgI i=0)∨(0 < i∧sgI i=1):=by
 unfold sgI
 rcases Int.lt_trichotomy i 0 with h | h | h
 ·left; exact⟨h,by rw [if_pos h]⟩
 ·right; left; subst h; exact⟨rfl,rfl⟩
 ·right; right; exact⟨h,by rw [if_neg (by omega),if_pos h]⟩

theorem lead2_sbet (a b:Ses):(decide (0 < lead2 a.v.pr a.v.si b.v.pr b.v.si) || (decide (lead2 a.v.pr a.v.si b.v.pr b.v.si=0) && slBet (besSlot a) (besSlot b)))=sbet a b:=by
 have hs:slBet (besSlot a) (besSlot b)=sbet a b:=rfl
 rw [hs]
 have h1:=sbet_iff a b
 cases hb:sbet a b with
 | true =>
  have:=h1.1 hb
  unfold lead2 orB
  rcases sgI_cases (a.v.pr - b.v.pr) with ⟨h,e⟩ | ⟨h,e⟩ | ⟨h,e⟩ <;> rcases sgI_cases (a.v.si - b.v.si) with ⟨g,d⟩ | ⟨g,d⟩ | ⟨g,d⟩ <;> rw [e,d] <;> first | (exfalso; omega) | simp
 | false =>
  have:=(sbet_no a b).1 hb
  unfold lead2 orB
  rcases sgI_cases (a.v.pr - b.v.pr) with ⟨h,e⟩ | ⟨h,e⟩ | ⟨h,e⟩ <;> rcases sgI_cases (a.v.si - b.v.si) with ⟨g,d⟩ | ⟨g,d⟩ | ⟨g,d⟩ <;> rw [e,d] <;> first | (exfalso; omega) | simp

end Go.Proofs.YtphfinlfabklmaaGreat

end

section

namespace Go.Proofs.YtphfinlfabklmaaGreat
open Go.RowKit

theorem fnan_any {x:Nat} {v:Int} (h:Stands x v) (w:World) :
  Calls Tryz.prog 264 #[.float .f64 x] w fun e w' => e=.returned (.bool false)∧w=w':=by
 have t1:(FloatKind.f64.format.order x x != some Ordering.eq)=false:=by
  rw [show FloatKind.f64.format.order x x=some Ordering.eq from h.2]; rfl
 clear h
 go_enter Tryz.func264,Tryz.ntmps264
 go_wp2_with fail
 go_ret
 exact⟨rfl,rfl⟩

theorem stands_zero:Stands 0 0:=by
 have:=stands_number (b:=0) (s:=false) (m:=0) (P:=0) read_zero
 simpa [sgn] using this

theorem fcmp_any {x:Nat} {v:Int} (h:Stands x v) (w:World) :
  Calls Tryz.prog 258 #[.float .f64 x,.float .f64 0] w fun e w' => e=.returned (.int .i64 (sgI v))∧w=w':=by
 have HS:=hD h
 have ho:FloatKind.f64.format.order x 0=some (compare v 0):=h.1
 rcases Int.lt_trichotomy v 0 with hv | hv | hv
 ·rw [Int.compare_eq_lt.2 hv] at ho
  have HG:Hid (sgI v=-1):=if_pos hv
  have t1:(FloatKind.f64.format.order x 0 == some Ordering.lt)=true:=by rw [ho]; rfl
  clear ho h hv
  go_enter Tryz.func258,Tryz.ntmps258
  go_wp2_with fail
  refine (fnan_any HS.out _).mono ?_
  rintro e w1 ⟨rfl,rfl⟩
  go_wp2_with fail
  refine (fnan_any stands_zero _).mono ?_
  rintro e w1 ⟨rfl,rfl⟩
  go_wp2_with fail
  go_ret
  exact⟨by rw [HG.out]; rfl,rfl⟩
 ·rw [Int.compare_eq_eq.2 hv] at ho
  have HG:Hid (sgI v=0):=by show sgI v=0; rw [hv]; rfl
  have t1:(FloatKind.f64.format.order x 0 == some Ordering.lt)=false:=by rw [ho]; rfl
  have t2:(FloatKind.f64.format.order x 0 == some Ordering.gt)=false:=by rw [ho]; rfl
  clear ho h hv
  go_enter Tryz.func258,Tryz.ntmps258
  go_wp2_with fail
  refine (fnan_any HS.out _).mono ?_
  rintro e w1 ⟨rfl,rfl⟩
  go_wp2_with fail
  refine (fnan_any stands_zero _).mono ?_
  rintro e w1 ⟨rfl,rfl⟩
  go_wp2_with fail
  go_ret
  exact⟨by rw [HG.out]; rfl,rfl⟩
 ·rw [Int.compare_eq_gt.2 hv] at ho
  have HG:Hid (sgI v=1):=by show sgI v=1; unfold sgI; rw [if_neg (by omega),if_pos hv]
  have t1:(FloatKind.f64.format.order x 0 == some Ordering.lt)=false:=by rw [ho]; rfl
  have t2:(FloatKind.f64.format.order x 0 == some Ordering.gt)=true:=by rw [ho]; rfl
  clear ho h hv
  go_enter Tryz.func258,Tryz.ntmps258
  go_wp2_with fail
  refine (fnan_any HS.out _).mono ?_
  rintro e w1 ⟨rfl,rfl⟩
  go_wp2_with fail
  refine (fnan_any stands_zero _).mono ?_
  rintro e w1 ⟨rfl,rfl⟩
  go_wp2_with fail
  go_ret
  exact⟨by rw [HG.out]; rfl,rfl⟩

theorem borI (x y:Int) (w:World) (B:Nat) (c0:w.cell? ⟨B,0,none⟩=some (.int .i64 x)) (c1:w.cell? ⟨B,1,none⟩=some (.int .i64 y)) :
  Calls Tryz.prog 191 #[.slice (some ⟨B,0,none⟩) 2 2] w fun e w' => e=.returned (.int .i64 (orB x y))∧w=w':=by
 by_cases hx:x=0
 ·subst hx
  by_cases hy:y=0
  ·subst hy
   go_enter Tryz.func191,Tryz.ntmps191
   go_wp2_with fail
   refine wp_loop_rounds 3 ?_
   rw [rounds_succ]
   go_wp2_with fail
   rw [rounds_succ]
   go_wp2_with fail
   rw [rounds_succ]
   go_wp2_with fail
   go_ret
   exact⟨rfl,rfl⟩
  ·have t1:(y != 0)=true:=by simp [hy]
   clear hy
   go_enter Tryz.func191,Tryz.ntmps191
   go_wp2_with fail
   refine wp_loop_rounds 3 ?_
   rw [rounds_succ]
   go_wp2_with fail
   rw [rounds_succ]
   go_wp2_with fail
   go_ret
   exact⟨rfl,rfl⟩
 ·have t1:(x != 0)=true:=by simp [hx]
  have HX:Hid (orB x y=x):=if_neg hx
  clear hx
  go_enter Tryz.func191,Tryz.ntmps191
  go_wp2_with fail
  refine wp_loop_rounds 3 ?_
  rw [rounds_succ]
  go_wp2_with fail
  go_ret
  exact⟨by rw [HX.out]; rfl,rfl⟩

theorem store_cplx (P:Program) (w:World) (a:Addr) (m:Mode) (k:FloatKind) (x y:Nat):(store a (.complex k x y) m).run P w=stored P w a (.complex k x y) m:=run_store P w a _ m rfl

attribute [local go_sem] store_cplx

def pairV (m n:Int):Value:=.agg #[.complex .f64 (floatOfInt .f64 (m / 4294967296)) (floatOfInt .f64 (n / 4294967296)),.complex .f64 (floatOfInt .f64 (m % 4294967296)) (floatOfInt .f64 (n % 4294967296))]

theorem pairOf_any (m n:Int) (_hm:(Lit.int .i64 m).wf=true) (_hn:(Lit.int .i64 n).wf=true) (w:World) :
  Calls Tryz.prog 240 #[.int .i64 m,.int .i64 n] w fun e w' => e=.returned (pairV m n)∧Below w.heap.size w w':=by
 have HB0:=hD (bl_newZ w (.cells #[.complex .f64 0 0,.complex .f64 0 0] 254))
 go_enter Tryz.func240,Tryz.ntmps240
 go_wp2_with fail
 refine bodyPost_ret (v:=pairV m n) (by simp [results,Tryz.results240,go_sem,pairV]) rfl ⟨rfl,bl_newZ w _⟩

theorem lead_float (m n m' n':Int) (hm:(Lit.int .i64 m).wf=true) (hn:(Lit.int .i64 n).wf=true) (hm':(Lit.int .i64 m').wf=true) (hn':(Lit.int .i64 n').wf=true) :
  ∃ a b c d e f g h,cSumBits .sub .f64 (floatOfInt .f64 (m / 4294967296)) (floatOfInt .f64 (n / 4294967296)) (floatOfInt .f64 (m' / 4294967296)) (floatOfInt .f64 (n' / 4294967296))=some (a,b)∧cMulBits a b 4751297606875873280 0=some (c,d) ∧
   cSumBits .sub .f64 (floatOfInt .f64 (m % 4294967296)) (floatOfInt .f64 (n % 4294967296)) (floatOfInt .f64 (m' % 4294967296)) (floatOfInt .f64 (n' % 4294967296))=some (e,f)∧cSumBits .add .f64 c d e f=some (g,h)∧Stands g (m - m')∧Stands h (n - n'):=by
 have wf:∀ {z:Int},(Lit.int .i64 z).wf=true→-9223372036854775808≤z∧z≤9223372036854775807:=by
  intro z hz
  have hz':decide (IntKind.i64.min≤z)=true∧decide (z≤IntKind.i64.max)=true:=by simpa only [Lit.wf,Bool.and_eq_true] using hz
  exact⟨of_decide_eq_true hz'.1,of_decide_eq_true hz'.2⟩
 have Hm:=wf hm
 have Hn:=wf hn
 have Hm':=wf hm'
 have Hn':=wf hn'
 have up:∀ z:Int,-9223372036854775808≤z∧z≤9223372036854775807→IsF (floatOfInt .f64 (z / 4294967296)) (z / 4294967296):=fun z hz => ofInt_is (by omega) (by omega)
 have lo:∀ z:Int,IsF (floatOfInt .f64 (z % 4294967296)) (z % 4294967296):=fun z => ofInt_is (by omega) (by omega)
 obtain⟨a,ha,A⟩:=sub_whole (up m Hm) (up m' Hm') (int_whole (by omega) (by omega))
 obtain⟨b,hb,B⟩:=sub_whole (up n Hn) (up n' Hn') (int_whole (by omega) (by omega))
 obtain⟨e,he,E⟩:=sub_whole (lo m) (lo m') (int_whole (by omega) (by omega))
 obtain⟨f,hf,F⟩:=sub_whole (lo n) (lo n') (int_whole (by omega) (by omega))
 obtain⟨ac,hac,AC⟩:=mul_up A (by omega) (by omega)
 obtain⟨bd,hbd,BD⟩:=mul_nil B
 obtain⟨ad,had,AD⟩:=mul_nil A
 obtain⟨bc,hbc,BC⟩:=mul_up B (by omega) (by omega)
 have wh:∀ z:Int,-9007199254740992 < z→z < 9007199254740992→Whole (z * 4294967296):=fun z h1 h2 => ⟨z.natAbs,32,by omega,by decide,by rw [Int.natAbs_mul]; rfl⟩
 obtain⟨c,hc,C⟩:=sub_whole AC BD (by rw [Int.sub_zero]; exact wh _ (by omega) (by omega))
 obtain⟨d,hd,D⟩:=add_whole AD BC (by rw [Int.zero_add]; exact wh _ (by omega) (by omega))
 obtain⟨g,hg,G⟩:=add_stands C E
 obtain⟨h,hh,H⟩:=add_stands D F
 refine ⟨a,b,c,d,e,f,g,h,?_,?_,?_,?_,?_,?_⟩
 ·simp only [cSumBits,floatBits,FloatKind.format,ha,hb,Option.bind_some]
 ·simp only [cMulBits,floatBits,FloatKind.format,hac,hbd,had,hbc,hc,hd,Option.bind_some]
 ·simp only [cSumBits,floatBits,FloatKind.format,he,hf,Option.bind_some]
 ·simp only [cSumBits,floatBits,FloatKind.format,hg,hh,Option.bind_some]
 ·rwa [show (m / 4294967296 - m' / 4294967296) * 4294967296 - 0+(m % 4294967296 - m' % 4294967296)=m - m' by omega] at G
 ·rwa [show 0+(n / 4294967296 - n' / 4294967296) * 4294967296+(n % 4294967296 - n' % 4294967296)=n - n' by omega] at H

theorem lead_any (m n m' n':Int) (hm:(Lit.int .i64 m).wf=true) (hn:(Lit.int .i64 n).wf=true) (hm':(Lit.int .i64 m').wf=true) (hn':(Lit.int .i64 n').wf=true) (w:World) :
  Calls Tryz.prog 239 #[pairV m n,pairV m' n'] w fun e w' => e=.returned (.int .i64 (lead2 m n m' n'))∧Below w.heap.size w w':=by
 obtain⟨a,b,c,d,e,f,g,h,h1,h2,h3,h4,h5,h6⟩:=lead_float m n m' n' hm hn hm' hn'
 have G1:=hD h5
 have G2:=hD h6
 have r1:=fun w => run_complex_sum (P:=Tryz.prog) w .sub (.inr rfl) 192 .f64 _ _ _ _ _ _ h1
 have r2:=fun w => run_complex_mul (P:=Tryz.prog) w 192 _ _ _ _ _ _ h2
 have r3:=fun w => run_complex_sum (P:=Tryz.prog) w .sub (.inr rfl) 192 .f64 _ _ _ _ _ _ h3
 have r4:=fun w => run_complex_sum (P:=Tryz.prog) w .add (.inl rfl) 192 .f64 _ _ _ _ _ _ h4
 unfold pairV
 generalize floatOfInt .f64 (m / 4294967296)=x1 at *
 generalize floatOfInt .f64 (n / 4294967296)=x2 at *
 generalize floatOfInt .f64 (m' / 4294967296)=x3 at *
 generalize floatOfInt .f64 (n' / 4294967296)=x4 at *
 generalize floatOfInt .f64 (m % 4294967296)=x5 at *
 generalize floatOfInt .f64 (n % 4294967296)=x6 at *
 generalize floatOfInt .f64 (m' % 4294967296)=x7 at *
 generalize floatOfInt .f64 (n' % 4294967296)=x8 at *
 clear h1 h2 h3 h4 h5 h6 hm hn hm' hn'
 go_enter Tryz.func239,Tryz.ntmps239
 go_wp2_with fail
 refine (fcmp_any G1.out _).mono ?_
 rintro e1 w1 ⟨rfl,rfl⟩
 go_wp2_with fail
 refine (fcmp_any G2.out _).mono ?_
 rintro e1 w1 ⟨rfl,rfl⟩
 go_wp2_with fail
 refine (borI (sgI (m - m')) (sgI (n - n')) _ (w.heap.size+1+1) ((cellsAt_made (vs:=[.int .i64 _,.int .i64 _]) rfl _ (B:=w.heap.size+1+1) (by simp)) 0 _ rfl) ((cellsAt_made (vs:=[.int .i64 _,.int .i64 _]) rfl _ (B:=w.heap.size+1+1) (by simp)) 1 _ rfl)).mono ?_
 rintro e1 w1 ⟨rfl,rfl⟩
 go_wp2_with fail
 go_ret
 exact⟨rfl,(((Below.refl _ _).alloc (Nat.le_refl _) _).alloc (by simp) _).alloc (by simp; omega) _⟩

end Go.Proofs.YtphfinlfabklmaaGreat

end

section

namespace Go.Proofs.YtphfinlfabklmaaGreat
open Go.RowKit Go.ChangeMaps Go.MapKept

def slVals (s:Sl):List Value:=[.int .i64 s.id,.int .i64 s.r0,.int .i64 s.r1,.int .i64 s.r2]

def SlFit (s:Sl):Prop:=(Lit.int .i64 s.id).wf=true

abbrev OwnSl (w:World) (base:Nat) (v:Value) (l:List Sl):Prop:=OwnS slVals 4 259 w base v l

def PlacesAt (w:World) (M:Nat) (f:Int→Option Nat) (k:Nat):Prop :=
 ∃ D:DataW Unit,w.ownsMap Tryz.prog 3 (plainElem Tryz.prog 3) M k D∧Maps.size D=k ∧
  ∀ id:Int,Maps.has D (.int .i64 id)=(f id).isSome∧D.atKey (.int .i64 id) (.lit (.int .i64 0))=.lit (.int .i64 (((f id).getD 0:Nat):Int))

theorem PlacesAt.kept {w w':World} {M:Nat} {f:Int→Option Nat} {k:Nat} (h:PlacesAt w M f k) (hb:w'.heap[M]?=w.heap[M]?):PlacesAt w' M f k:=by
 obtain⟨D,⟨es,clock,h2,h3,h4,h5⟩,h6⟩:=h
 exact⟨D,⟨es,clock,hb.trans h2,h3,h4,h5⟩,h6⟩

theorem PlacesAt.lt {w:World} {M:Nat} {f:Int→Option Nat} {k:Nat} (h:PlacesAt w M f k):M < w.heap.size:=by
 obtain⟨D,h1,_⟩:=h
 exact h1.lt

theorem PlacesAt.isMap {w:World} {M:Nat} {f:Int→Option Nat} {k:Nat} (h:PlacesAt w M f k):∃ es clock,w.heap[M]?=some (.map es clock):=by
 obtain⟨D,⟨es,clock,h2,_⟩,_⟩:=h
 exact⟨es,clock,h2⟩

def layF (f:Int→Option Nat) (id:Int) (a:Option Nat):Int→Option Nat:=fun x => if x=id then a else f x

def Spared (w w':World) (B M:Nat) (v:Value):Prop:=w'.heap[B]?=w.heap[B]?∧w'.heap[M]?=w.heap[M]?∧∀ g n c,v=.slice (some ⟨g,0,none⟩) n c→w'.heap[g]?=w.heap[g]?

theorem OwnS.blocks {α:Type} {vals:α→List Value} {sz:Nat} {T:TypeId} {w w':World} {base:Nat} {v:Value} {t:List α} (h:OwnS vals sz T w base v t) (hb:∀ g n c,v=.slice (some ⟨g,0,none⟩) n c→w'.heap[g]?=w.heap[g]?):OwnS vals sz T w' base v t:=by
 refine ⟨h.1,?_⟩
 rcases h.2 with h' | ⟨g,cap,cur,h1,h2,h3,h4⟩
 ·exact .inl h'
 ·exact .inr ⟨g,cap,cur,h1,h2,(hb g _ _ h1).trans h3,h4⟩

theorem OwnS.gblock {α:Type} {vals:α→List Value} {sz:Nat} {T:TypeId} {w:World} {base:Nat} {v:Value} {t:List α} (h:OwnS vals sz T w base v t) {g n c:Nat} (hv:v=.slice (some ⟨g,0,none⟩) n c):g < w.heap.size∧base≤g∧∃ cur,w.heap[g]?=some (.cells cur T (0,0)):=by
 subst hv
 obtain⟨_,h2,h3,_,_,cur,h4,_⟩:=h.head
 exact⟨h3,h2,cur,h4⟩

def Foot (B M:Nat) (v:Value) (b:Nat):Prop:=b=B∨b=M∨∃ n c,v=.slice (some ⟨b,0,none⟩) n c

def Beside (w w':World) (S:Nat→Prop):Prop:=∀ b,b < w.heap.size→¬ S b→w'.heap[b]?=w.heap[b]?

theorem Beside.refl (w:World) (S:Nat→Prop):Beside w w S:=fun _ _ _ => rfl

theorem Beside.trans {a b c:World} {S:Nat→Prop} (h1:Beside a b S) (hs:a.heap.size≤b.heap.size) (h2:Beside b c S):Beside a c S :=
 fun x hx hn => (h2 x (Nat.lt_of_lt_of_le hx hs) hn).trans (h1 x hx hn)

end Go.Proofs.YtphfinlfabklmaaGreat

end

section

namespace Go.Proofs.YtphfinlfabklmaaGreat
open Go.RowKit

def rk (s:Sl) (i:Nat):Int:=if i=0 then s.r0 else if i=1 then s.r1 else s.r2

theorem slBet_at {a b:Sl} {k:Nat} (hk:k < 3) (hs:∀ j,j < k→rk a j=rk b j) (hd:rk a k ≠ rk b k):slBet a b=decide (rk b k < rk a k):=by
 have h3:k=0∨k=1∨k=2:=by omega
 unfold slBet
 rcases h3 with rfl | rfl | rfl
 ·have:a.r0 ≠ b.r0:=hd
  rw [if_neg this]; rfl
 ·have h0:a.r0=b.r0:=hs 0 (by omega)
  have:a.r1 ≠ b.r1:=hd
  rw [if_pos h0,if_neg this]; rfl
 ·have h0:a.r0=b.r0:=hs 0 (by omega)
  have h1:a.r1=b.r1:=hs 1 (by omega)
  have:a.r2 ≠ b.r2:=hd
  rw [if_pos h0,if_pos h1,if_neg this]; rfl

theorem slBet_id {a b:Sl} (hs:∀ j,j < 3→rk a j=rk b j):slBet a b=decide (a.id < b.id):=by
 have h0:a.r0=b.r0:=hs 0 (by omega)
 have h1:a.r1=b.r1:=hs 1 (by omega)
 have h2:a.r2=b.r2:=hs 2 (by omega)
 unfold slBet
 rw [if_pos h0,if_pos h1,if_pos h2]

theorem better_any (i a0 a1 a2 j b0 b1 b2:Int) (w:World) :
  Calls Tryz.prog 241 #[.agg #[.int .i64 i,.int .i64 a0,.int .i64 a1,.int .i64 a2],.agg #[.int .i64 j,.int .i64 b0,.int .i64 b1,.int .i64 b2]] w fun e w' => e=.returned (.bool (slBet ⟨i,a0,a1,a2⟩ ⟨j,b0,b1,b2⟩))∧Below w.heap.size w w':=by
 have B0:Hid (Below w.heap.size w ((w.alloc (.cells #[.int .i64 i,.int .i64 a0,.int .i64 a1,.int .i64 a2] 259)).alloc (.cells #[.int .i64 j,.int .i64 b0,.int .i64 b1,.int .i64 b2] 259))):=hD (((Below.refl _ _).alloc (Nat.le_refl _) _).alloc (by simp) _)
 have x0:∀ w,(Instr.index 257 (.agg #[.int .i64 a0,.int .i64 a1,.int .i64 a2]) (.int .i64 0)).run Tryz.prog w=.ok (.int .i64 a0) w:=fun _ => by kernel_rfl
 have x1:∀ w,(Instr.index 257 (.agg #[.int .i64 a0,.int .i64 a1,.int .i64 a2]) (.int .i64 1)).run Tryz.prog w=.ok (.int .i64 a1) w:=fun _ => by kernel_rfl
 have x2:∀ w,(Instr.index 257 (.agg #[.int .i64 a0,.int .i64 a1,.int .i64 a2]) (.int .i64 2)).run Tryz.prog w=.ok (.int .i64 a2) w:=fun _ => by kernel_rfl
 go_enter Tryz.func241,Tryz.ntmps241
 go_wp2_with fail
 go_loop [9] (fun t => ∃ k:Nat,k≤3∧t=.int .i64 k∧Hid (∀ x,x < k→rk ⟨i,a0,a1,a2⟩ x=rk ⟨j,b0,b1,b2⟩ x)) (fun t => 3 - (intOf t).toNat)
 case atStart => exact⟨0,by omega,rfl,by show ∀ _,_; intro x hx; omega⟩
 case round =>
  obtain⟨k,hk,rfl,HA⟩:=hrel
  have h3:k=0∨k=1∨k=2∨k=3:=by omega
  rcases h3 with rfl | rfl | rfl | rfl
  ·by_cases h:a0=b0
   ·have HA2:Hid (∀ x,x < 1→rk ⟨i,a0,a1,a2⟩ x=rk ⟨j,b0,b1,b2⟩ x):=by
     show ∀ _,_
     intro x hx
     obtain rfl:x=0:=by omega
     exact h
    have t1:(a0 != b0)=false:=by simpa using h
    clear h
    go_wp2_with fail
    go_round
    case rel => exact⟨1,by omega,rfl,HA2⟩
    case measure => simp [intOf]
   ·have HR:=hD (slBet_at (a:=⟨i,a0,a1,a2⟩) (b:=⟨j,b0,b1,b2⟩) (k:=0) (by omega) HA.out h)
    have t1:(a0 != b0)=true:=by simpa using h
    clear h
    go_wp2_with fail
    go_ret
    exact⟨by rw [HR.out]; rfl,B0.out⟩
  ·by_cases h:a1=b1
   ·have HA2:Hid (∀ x,x < 2→rk ⟨i,a0,a1,a2⟩ x=rk ⟨j,b0,b1,b2⟩ x):=by
     show ∀ _,_
     intro x hx
     by_cases e:x=1
     ·subst e; exact h
     ·exact HA.out x (by omega)
    have t1:(a1 != b1)=false:=by simpa using h
    clear h
    go_wp2_with fail
    go_round
    case rel => exact⟨2,by omega,rfl,HA2⟩
    case measure => simp [intOf]
   ·have HR:=hD (slBet_at (a:=⟨i,a0,a1,a2⟩) (b:=⟨j,b0,b1,b2⟩) (k:=1) (by omega) HA.out h)
    have t1:(a1 != b1)=true:=by simpa using h
    clear h
    go_wp2_with fail
    go_ret
    exact⟨by rw [HR.out]; rfl,B0.out⟩
  ·by_cases h:a2=b2
   ·have HA2:Hid (∀ x,x < 3→rk ⟨i,a0,a1,a2⟩ x=rk ⟨j,b0,b1,b2⟩ x):=by
     show ∀ _,_
     intro x hx
     by_cases e:x=2
     ·subst e; exact h
     ·exact HA.out x (by omega)
    have t1:(a2 != b2)=false:=by simpa using h
    clear h
    go_wp2_with fail
    go_round
    case rel => exact⟨3,by omega,rfl,HA2⟩
    case measure => simp [intOf]
   ·have HR:=hD (slBet_at (a:=⟨i,a0,a1,a2⟩) (b:=⟨j,b0,b1,b2⟩) (k:=2) (by omega) HA.out h)
    have t1:(a2 != b2)=true:=by simpa using h
    clear h
    go_wp2_with fail
    go_ret
    exact⟨by rw [HR.out]; rfl,B0.out⟩
  ·have HR:=hD (slBet_id HA.out)
   go_wp2_with fail
   go_ret
   exact⟨by rw [HR.out]; rfl,B0.out⟩

end Go.Proofs.YtphfinlfabklmaaGreat

end

section

namespace Go.Proofs.YtphfinlfabklmaaGreat
open Go.RowKit

theorem bslot_any (k st:List UInt8) (id a b c:Int) (w:World) :
  Calls Tryz.prog 242 #[.agg #[.string ⟨k.toArray⟩,.int .i64 id,.int .i64 a,.int .i64 b,.int .i64 c,.string ⟨st.toArray⟩]] w fun e w' => e=.returned (.agg #[.int .i64 id,.int .i64 b,.int .i64 c,.int .i64 0])∧Below w.heap.size w w':=by
 go_enter Tryz.func242,Tryz.ntmps242
 go_wp2_with fail
 refine bodyPost_ret (v:=.agg #[.int .i64 id,.int .i64 b,.int .i64 c,.int .i64 0]) (by simp [results,Tryz.results242,go_sem]) rfl ⟨rfl,?_⟩
 repeat (first | exact Below.refl _ _ | refine Below.setCell ?_ (by first | (simp; done) | (simp; omega)) _ | refine Below.alloc ?_ (by first | (simp; done) | (simp; omega)) _)

theorem isBetter_eq (k st:List UInt8) (id a b c:Int) (k' st':List UInt8) (id' a' b' c':Int) (hb:(Lit.int .i64 b).wf=true) (hc:(Lit.int .i64 c).wf=true) (hb':(Lit.int .i64 b').wf=true) (hc':(Lit.int .i64 c').wf=true) {r:Bool} (hr:sbet ⟨k,id,⟨a,b,c,st⟩⟩ ⟨k',id',⟨a',b',c',st'⟩⟩=r) (w:World) :
  Calls Tryz.prog 211 #[.agg #[.string ⟨k.toArray⟩,.int .i64 id,.int .i64 a,.int .i64 b,.int .i64 c,.string ⟨st.toArray⟩],.agg #[.string ⟨k'.toArray⟩,.int .i64 id',.int .i64 a',.int .i64 b',.int .i64 c',.string ⟨st'.toArray⟩]] w fun e w' => e=.returned (.bool r)∧Below w.heap.size w w':=by
 have hl:=lead2_sbet ⟨k,id,⟨a,b,c,st⟩⟩ ⟨k',id',⟨a',b',c',st'⟩⟩
 rw [hr] at hl
 simp only [besSlot] at hl
 obtain⟨n,hn⟩ : ∃ n,lead2 b c b' c'=n:=⟨_,rfl⟩
 rw [hn] at hl
 have H1:Hid (∀ w,Calls Tryz.prog 240 #[.int .i64 b,.int .i64 c] w fun e w' => e=.returned (pairV b c)∧Below w.heap.size w w'):=hD (pairOf_any b c hb hc)
 have H2:Hid (∀ w,Calls Tryz.prog 240 #[.int .i64 b',.int .i64 c'] w fun e w' => e=.returned (pairV b' c')∧Below w.heap.size w w'):=hD (pairOf_any b' c' hb' hc')
 have H3:Hid (∀ w,Calls Tryz.prog 239 #[pairV b c,pairV b' c'] w fun e w' => e=.returned (.int .i64 n)∧Below w.heap.size w w'):=by
  have:=lead_any b c b' c' hb hc hb' hc'
  rw [hn] at this
  exact hD this
 clear hr hn hb hc hb' hc'
 generalize hp:pairV b c=p at H1 H3
 generalize hq:pairV b' c'=q at H2 H3
 clear hp hq
 obtain⟨W,hW⟩ : ∃ W,W=(w.alloc (.cells #[.string ⟨k.toArray⟩,.int .i64 id,.int .i64 a,.int .i64 b,.int .i64 c,.string ⟨st.toArray⟩] 122)).alloc (.cells #[.string ⟨k'.toArray⟩,.int .i64 id',.int .i64 a',.int .i64 b',.int .i64 c',.string ⟨st'.toArray⟩] 122):=⟨_,rfl⟩
 have B0:Hid (Below w.heap.size w W):=by show Below _ _ _; rw [hW]; exact ((Below.refl _ _).alloc (Nat.le_refl _) _).alloc (by simp) _
 have X1:Hid (CellsAt W w.heap.size 0 (sesVals ⟨k,id,⟨a,b,c,st⟩⟩)):=by
  show CellsAt _ _ _ _
  rw [hW]
  exact (cellsAt_made (w:=w) rfl 122 rfl).later (bl_newZ _ _)
 have X2:Hid (CellsAt W (w.heap.size+1) 0 (sesVals ⟨k',id',⟨a',b',c',st'⟩⟩)):=by
  show CellsAt _ _ _ _
  rw [hW]
  exact cellsAt_made rfl 122 (B:=w.heap.size+1) (by simp)
 go_enter Tryz.func211,Tryz.ntmps211
 go_wp2_with fail
 rw [← hW]
 clear hW
 obtain⟨x0,x1,x2,x3,x4,x5⟩:=cells6_regrown X1.out
 obtain⟨y0,y1,y2,y3,y4,y5⟩:=cells6_regrown X2.out
 simp only [Nat.zero_add] at x0 x1 x2 x3 x4 x5 y0 y1 y2 y3 y4 y5
 refine wp_region_quiet_below (by kernel_rfl) (by kernel_rfl) ?_
 repeat (go_big_quiet_step (first | with_reducible exact rgB H1.out _ _ _ | with_reducible exact rgB H2.out _ _ _ | with_reducible exact rgB H3.out _ _ _))
 refine wpQuiet_nil ?_
 intro w5 hw
 have b5:=regrownZ hw
 have B5:=hD (below2Z B0.out b5)
 have Y1:=hD (X1.out.later b5)
 have Y2:=hD (X2.out.later b5)
 clear hw b5 x0 x1 x2 x3 x4 x5 y0 y1 y2 y3 y4 y5 X1 X2 H1 H2 H3
 by_cases h0:0 < n
 ·have t0:decide (0 < n)=true:=by simpa using h0
  have HR:Hid (true=r):=by show _=_; rw [← hl,t0]; rfl
  clear h0 hl Y1 Y2
  go_wp2_with fail
  refine wp_region_quiet_below (by kernel_rfl) (by kernel_rfl) ?_
  repeat (go_big_quiet_step (fail))
  refine wpQuiet_nil ?_
  intro w6 hw
  have b6:=regrownZ hw
  have B6:=hD (below2Z B5.out b6)
  clear hw b6
  go_wp2_with fail
  go_ret
  exact⟨by rw [← HR.out]; rfl,B6.out⟩
 ·have t0:decide (0 < n)=false:=by simpa using h0
  by_cases h1:n=0
  ·subst h1
   have H4:Hid (∀ w,Calls Tryz.prog 241 #[.agg #[.int .i64 id,.int .i64 b,.int .i64 c,.int .i64 0],.agg #[.int .i64 id',.int .i64 b',.int .i64 c',.int .i64 0]] w fun e w' => e=.returned (.bool r)∧Below w.heap.size w w'):=by
    have:=better_any id b c 0 id' b' c' 0
    rw [show slBet ⟨id,b,c,0⟩ ⟨id',b',c',0⟩=r by rw [← hl]; simp] at this
    exact hD this
   have HS1:Hid (∀ w,Calls Tryz.prog 242 #[.agg #[.string ⟨k.toArray⟩,.int .i64 id,.int .i64 a,.int .i64 b,.int .i64 c,.string ⟨st.toArray⟩]] w fun e w' => e=.returned (.agg #[.int .i64 id,.int .i64 b,.int .i64 c,.int .i64 0])∧Below w.heap.size w w'):=hD (bslot_any k st id a b c)
   have HS2:Hid (∀ w,Calls Tryz.prog 242 #[.agg #[.string ⟨k'.toArray⟩,.int .i64 id',.int .i64 a',.int .i64 b',.int .i64 c',.string ⟨st'.toArray⟩]] w fun e w' => e=.returned (.agg #[.int .i64 id',.int .i64 b',.int .i64 c',.int .i64 0])∧Below w.heap.size w w'):=hD (bslot_any k' st' id' a' b' c')
   obtain⟨x0,x1,x2,x3,x4,x5⟩:=cells6_regrown Y1.out
   obtain⟨y0,y1,y2,y3,y4,y5⟩:=cells6_regrown Y2.out
   simp only [Nat.zero_add] at x0 x1 x2 x3 x4 x5 y0 y1 y2 y3 y4 y5
   clear h0 hl Y1 Y2 t0
   go_wp2_with fail
   refine wp_region_quiet_below (by kernel_rfl) (by kernel_rfl) ?_
   repeat (go_big_quiet_step (first | with_reducible exact rgB HS1.out _ _ _ | with_reducible exact rgB HS2.out _ _ _ | with_reducible exact rgB H4.out _ _ _))
   refine wpQuiet_nil ?_
   intro w6 hw
   have b6:=regrownZ hw
   have B6:=hD (below2Z B5.out b6)
   clear hw b6
   go_wp2_with fail
   go_ret
   exact⟨rfl,B6.out⟩
  ·have t1:(n == 0)=false:=by rw [beq_eq_false_iff_ne]; exact h1
   have HR:Hid (false=r):=by show _=_; rw [← hl,t0]; simp [h1]
   clear h0 h1 hl Y1 Y2
   go_wp2_with fail
   refine wp_region_quiet_below (by kernel_rfl) (by kernel_rfl) ?_
   repeat (go_big_quiet_step (fail))
   refine wpQuiet_nil ?_
   intro w6 hw
   have b6:=regrownZ hw
   have B6:=hD (below2Z B5.out b6)
   clear hw b6
   go_wp2_with fail
   go_ret
   exact⟨by rw [← HR.out]; rfl,B6.out⟩

end Go.Proofs.YtphfinlfabklmaaGreat

end

section

namespace Go.Proofs.YtphfinlfabklmaaGreat
open Go.RowKit

structure ValFit (v:Val):Prop where
 sh:(Lit.int .i64 v.sh).wf=true
 pr:(Lit.int .i64 v.pr).wf=true
 si:(Lit.int .i64 v.si).wf=true

structure SesFit (s:Ses):Prop where
 id:(Lit.int .i64 s.id).wf=true
 sh:(Lit.int .i64 s.v.sh).wf=true
 pr:(Lit.int .i64 s.v.pr).wf=true
 si:(Lit.int .i64 s.v.si).wf=true

theorem sat_mem {l:List Ses} {k:Nat} (h:k < l.length):sat l k ∈ l:=by
 rw [show sat l k=l[k] from sgetDB h]
 exact List.getElem_mem h

theorem bst_mem {l:List Ses} {k:Nat} (h:k < l.length):bst l k ∈ l:=by
 obtain⟨j,h1,h2,-⟩:=bst_spec l k
 rw [h2]
 exact sat_mem (by omega)

theorem best_yes {w:World} {v:Value} {l:List Ses} (hv:Sess w v l) (hf:∀ s ∈ l,SesFit s) (h0:0 < l.length) {n st:List UInt8} {i a b c:Int} (hr:besOf l=⟨n,i,⟨a,b,c,st⟩⟩) :
  Calls Tryz.prog 185 #[v] w fun e w' => e=.returned (.tuple #[.agg #[.string ⟨n.toArray⟩,.int .i64 i,.int .i64 a,.int .i64 b,.int .i64 c,.string ⟨st.toArray⟩],.bool true])∧Below w.heap.size w w':=by
 have hb1:=bl_newZ w (.cells #[.string ⟨#[]⟩,.int .i64 0,.int .i64 0,.int .i64 0,.int .i64 0,.string ⟨#[]⟩] 122)
 obtain⟨ao,cap,rfl,hm⟩:=hv.open'
 obtain⟨bk,off,rfl,hc0⟩:=hv.row hb1 0 h0
 obtain⟨⟨kn,id,⟨sh,pr,si,sst⟩⟩,hz⟩ : ∃ s,sat l 0=s:=⟨_,rfl⟩
 rw [show l.getD 0 Ses.zero=sat l 0 from rfl,hz] at hc0
 obtain⟨s0,s1,s2,s3,s4,s5⟩:=cells6 hc0
 simp only [Nat.zero_mul,Nat.add_zero] at s0 s1 s2 s3 s4 s5
 have t0:((l.length:Int) == 0)=false:=by rw [beq_eq_false_iff_ne]; omega
 have t1:(0:Int) < (l.length:Int):=by omega
 have HT:=hD (hv.tail (by decide) 1 (by omega))
 obtain⟨ad,had⟩ : ∃ ad,(if cap=1 then (⟨bk,off,none⟩ : Addr) else (⟨bk,off,none⟩ : Addr).add (1 * 6))=ad:=⟨_,rfl⟩
 have hsl:=fun w => run_slice_from_S sesOK w ⟨bk,off,none⟩ l.length cap 1 1 rfl h0
 rw [had] at hsl HT
 have HF:=hD hf
 have HR:=hD hr
 obtain⟨W,hW⟩ : ∃ W,W=(w.alloc (.cells #[.string ⟨#[]⟩,.int .i64 0,.int .i64 0,.int .i64 0,.int .i64 0,.string ⟨#[]⟩] 122)).alloc (.cells #[.string ⟨kn.toArray⟩,.int .i64 id,.int .i64 sh,.int .i64 pr,.int .i64 si,.string ⟨sst.toArray⟩] 122):=⟨_,rfl⟩
 have hW2:Below w.heap.size w W:=by rw [hW]; exact ((Below.refl _ _).alloc (Nat.le_refl _) _).alloc (by simp) _
 have HW:=hD hW2
 have hsz:W.heap.size=w.heap.size+2:=by rw [hW]; simp
 have X2:Hid (W.heap[w.heap.size+1]?=some (.cells (sesVals (bst l 0)).toArray 122 (0,0))):=by
  show _=_
  rw [show bst l 0=⟨kn,id,⟨sh,pr,si,sst⟩⟩ from hz,hW]
  have:=heap_alloc_new (w.alloc (.cells #[.string ⟨#[]⟩,.int .i64 0,.int .i64 0,.int .i64 0,.int .i64 0,.string ⟨#[]⟩] 122)) (.cells #[.string ⟨kn.toArray⟩,.int .i64 id,.int .i64 sh,.int .i64 pr,.int .i64 si,.string ⟨sst.toArray⟩] 122)
  rwa [World.size_alloc] at this
 have R2:Hid (W.heap[w.heap.size]?=some (.cells #[.string ⟨#[]⟩,.int .i64 0,.int .i64 0,.int .i64 0,.int .i64 0,.string ⟨#[]⟩] 122 (0,0))):=by
  show _=_
  rw [hW]
  exact (heap_alloc_old _ _ (by simp)).trans (heap_alloc_new w _)
 clear hv hb1 hW2 hz hc0 had hf hr
 go_enter Tryz.func185,Tryz.ntmps185
 go_wp2_with fail
 rw [← hW]
 clear hW s0 s1 s2 s3 s4 s5 t0 t1 hsl
 generalize hB:w.heap.size+1=B at X2 ⊢
 obtain⟨m,hm2⟩ : ∃ m,m=l.length - 1:=⟨_,rfl⟩
 rw [← hm2] at HT ⊢
 have hml:m < l.length:=by omega
 have hdl:=hD (show (l.drop 1).length=m by rw [List.length_drop,hm2])
 have HM:=hD hm2
 clear hm2
 have hnk:Hid (∀ k,(l.drop 1).getD k Ses.zero=sat l (k+1)):=fun k => by
  show _=l.getD (k+1) Ses.zero
  rw [List.getD_eq_getElem?_getD,List.getD_eq_getElem?_getD,List.getElem?_drop,Nat.add_comm]
 go_loopw [6,17] (fun _ t wr => ∃ k:Nat,k≤m∧t=.int .i64 k∧Hid (wr.heap[B]?=some (.cells (sesVals (bst l k)).toArray 122 (0,0)))∧Hid (Below B W wr)) (fun _ t _ => m - (intOf t).toNat)
 case atStart => exact⟨0,by omega,rfl,X2,Below.refl _ _⟩
 case round =>
  clear X2
  obtain⟨k,hk,rfl,HX,HB⟩:=hrel
  have hBl:=(Array.getElem?_eq_some_iff.1 HX.out).1
  by_cases hlt:k < m
  ·obtain⟨bd,od,ead,hc⟩:=HT.out.row (HW.out.trans (HB.out.mono (by omega))) k (by rw [hdl.out]; exact hlt)
   obtain rfl:=Option.some.inj ead
   rw [hnk.out] at hc
   have hmx:=HF.out _ (sat_mem (l:=l) (k:=k+1) (by omega))
   have hmy:=HF.out _ (bst_mem (l:=l) (k:=k) (by omega))
   obtain⟨⟨xn,xi,⟨xa,xb,xc,xs⟩⟩,hx⟩ : ∃ s,sat l (k+1)=s:=⟨_,rfl⟩
   obtain⟨⟨yn,yi,⟨ya,yb,yc,ys⟩⟩,hy⟩ : ∃ s,bst l k=s:=⟨_,rfl⟩
   rw [hx] at hc hmx
   rw [hy] at hmy
   have hX:=HX.out
   rw [hy] at hX
   have hnx:bst l (k+1)=if sbet (sat l (k+1)) (bst l k)=true then sat l (k+1) else bst l k:=rfl
   rw [hx,hy] at hnx
   obtain⟨q,hq⟩ : ∃ q,sbet ⟨xn,xi,⟨xa,xb,xc,xs⟩⟩ ⟨yn,yi,⟨ya,yb,yc,ys⟩⟩=q:=⟨_,rfl⟩
   rw [hq] at hnx
   have HQ:Hid (∀ w,Calls Tryz.prog 211 #[.agg #[.string ⟨xn.toArray⟩,.int .i64 xi,.int .i64 xa,.int .i64 xb,.int .i64 xc,.string ⟨xs.toArray⟩],.agg #[.string ⟨yn.toArray⟩,.int .i64 yi,.int .i64 ya,.int .i64 yb,.int .i64 yc,.string ⟨ys.toArray⟩]] w fun e w' => e=.returned (.bool q)∧Below w.heap.size w w') :=
    hD (isBetter_eq xn xs xi xa xb xc yn ys yi ya yb yc hmx.pr hmx.si hmy.pr hmy.si hq)
   have HN:=hD hnx
   obtain⟨s0,s1,s2,s3,s4,s5⟩:=cells6 hc
   obtain⟨z0,z1,z2,z3,z4,z5⟩:=cells6 (show CellsAt wr B 0 (sesVals ⟨yn,yi,⟨ya,yb,yc,ys⟩⟩) from fun j u hu => by rw [Nat.zero_add]; exact (cell_of_row wr B j _ _ (0,0) hX).trans (by simpa using hu))
   simp only [Nat.zero_add] at z0 z1 z2 z3 z4 z5
   try simp only at s0 s1 s2 s3 s4 s5
   try simp only at z0 z1 z2 z3 z4 z5
   have HSZ:wr.heap.size < (wr.alloc (.cells #[.string ⟨xn.toArray⟩,.int .i64 xi,.int .i64 xa,.int .i64 xb,.int .i64 xc,.string ⟨xs.toArray⟩] 122)).heap.size:=by simp
   have CX:=hD (cellsAt_made (w:=wr) (cs:=#[.string ⟨xn.toArray⟩,.int .i64 xi,.int .i64 xa,.int .i64 xb,.int .i64 xc,.string ⟨xs.toArray⟩]) (vs:=sesVals ⟨xn,xi,⟨xa,xb,xc,xs⟩⟩) rfl 122 rfl)
   clear hx hy hq hnx hc hmx hmy
   go_wp2_with fail
   refine (HQ.out _).mono ?_
   rintro e w5 ⟨rfl,b5⟩
   have b5':=below2Z (bl_newZ wr (.cells #[.string ⟨xn.toArray⟩,.int .i64 xi,.int .i64 xa,.int .i64 xb,.int .i64 xc,.string ⟨xs.toArray⟩] 122)) b5
   have HX5:=(b5'.block B hBl).trans hX
   have HB5:=hD (HB.out.trans (b5'.mono (Nat.le_of_lt hBl)))
   obtain⟨y0,y1,y2,y3,y4,y5⟩:=cells6 (CX.out.later b5)
   simp only [Nat.zero_add] at y0 y1 y2 y3 y4 y5
   try simp only at y0 y1 y2 y3 y4 y5
   have g0:=frozen_of_row w5 B 0 _ _ HX5
   have g1:=frozen_of_row w5 B 1 _ _ HX5
   have g2:=frozen_of_row w5 B 2 _ _ HX5
   have g3:=frozen_of_row w5 B 3 _ _ HX5
   have g4:=frozen_of_row w5 B 4 _ _ HX5
   have g5:=frozen_of_row w5 B 5 _ _ HX5
   replace z0:w5.cell? ⟨B,0,none⟩=some (.string ⟨yn.toArray⟩):=cell_of_row w5 B 0 _ _ (0,0) HX5
   replace z1:w5.cell? ⟨B,1,none⟩=some (.int .i64 yi):=cell_of_row w5 B 1 _ _ (0,0) HX5
   replace z2:w5.cell? ⟨B,2,none⟩=some (.int .i64 ya):=cell_of_row w5 B 2 _ _ (0,0) HX5
   replace z3:w5.cell? ⟨B,3,none⟩=some (.int .i64 yb):=cell_of_row w5 B 3 _ _ (0,0) HX5
   replace z4:w5.cell? ⟨B,4,none⟩=some (.int .i64 yc):=cell_of_row w5 B 4 _ _ (0,0) HX5
   replace z5:w5.cell? ⟨B,5,none⟩=some (.string ⟨ys.toArray⟩):=cell_of_row w5 B 5 _ _ (0,0) HX5
   clear b5 b5' s0 s1 s2 s3 s4 s5 HX
   cases q with
   | true =>
    have r0:=heap_setCell_same w5 B 0 _ _ (.string ⟨xn.toArray⟩) HX5
    have r1:=heap_setCell_same _ B 1 _ _ (.int .i64 xi) r0
    have r2:=heap_setCell_same _ B 2 _ _ (.int .i64 xa) r1
    have r3:=heap_setCell_same _ B 3 _ _ (.int .i64 xb) r2
    have r4:=heap_setCell_same _ B 4 _ _ (.int .i64 xc) r3
    have r5:=heap_setCell_same _ B 5 _ _ (.string ⟨xs.toArray⟩) r4
    have HX2:Hid (((((((w5.setCell ⟨B,0,none⟩ (.string ⟨xn.toArray⟩)).setCell ⟨B,1,none⟩ (.int .i64 xi)).setCell ⟨B,2,none⟩ (.int .i64 xa)).setCell ⟨B,3,none⟩ (.int .i64 xb)).setCell ⟨B,4,none⟩ (.int .i64 xc)).setCell ⟨B,5,none⟩ (.string ⟨xs.toArray⟩)).heap[B]?=some (.cells (sesVals (bst l (k+1))).toArray 122 (0,0))):=by
     show _=_
     rw [HN.out,r5]
     rfl
    have HB2:Hid (Below B W ((((((w5.setCell ⟨B,0,none⟩ (.string ⟨xn.toArray⟩)).setCell ⟨B,1,none⟩ (.int .i64 xi)).setCell ⟨B,2,none⟩ (.int .i64 xa)).setCell ⟨B,3,none⟩ (.int .i64 xb)).setCell ⟨B,4,none⟩ (.int .i64 xc)).setCell ⟨B,5,none⟩ (.string ⟨xs.toArray⟩))):=((((((HB5.out.setCell (Nat.le_refl _) _).setCell (Nat.le_refl _) _).setCell (Nat.le_refl _) _).setCell (Nat.le_refl _) _).setCell (Nat.le_refl _) _).setCell (Nat.le_refl _) _)
    clear r0 r1 r2 r3 r4 r5 HX5 hX
    go_wp2_with fail
    go_roundw
    case rel => exact⟨k+1,by omega,by go_num,HX2,HB2⟩
    case measure => simp [intOf]; omega
   | false =>
    have HX2:Hid (w5.heap[B]?=some (.cells (sesVals (bst l (k+1))).toArray 122 (0,0))):=by
     show _=_
     rw [HN.out,HX5]
     rfl
    clear HX5 hX
    go_wp2_with fail
    go_roundw
    case rel => exact⟨k+1,by omega,by go_num,HX2,HB5⟩
    case measure => simp [intOf]; omega
  ·obtain rfl:k=m:=by omega
   have hX:=HX.out
   rw [HM.out,show bst l (l.length - 1)=besOf l from rfl,HR.out] at hX
   obtain⟨z0,z1,z2,z3,z4,z5⟩:=cells6 (show CellsAt wr B 0 (sesVals ⟨n,i,⟨a,b,c,st⟩⟩) from fun j u hu => by rw [Nat.zero_add]; exact (cell_of_row wr B j _ _ (0,0) hX).trans (by simpa using hu))
   simp only [Nat.zero_add] at z0 z1 z2 z3 z4 z5
   try simp only at z0 z1 z2 z3 z4 z5
   have HWR:=hD (HW.out.trans (HB.out.mono (by omega)))
   have hR:=(HB.out.block w.heap.size (by omega)).trans R2.out
   have o0:wr.cell? ⟨w.heap.size,0,none⟩=some (.string ⟨#[]⟩):=cell_of_row wr _ 0 _ _ (0,0) hR
   have o1:wr.cell? ⟨w.heap.size,1,none⟩=some (.int .i64 0):=cell_of_row wr _ 1 _ _ (0,0) hR
   have o2:wr.cell? ⟨w.heap.size,2,none⟩=some (.int .i64 0):=cell_of_row wr _ 2 _ _ (0,0) hR
   have o3:wr.cell? ⟨w.heap.size,3,none⟩=some (.int .i64 0):=cell_of_row wr _ 3 _ _ (0,0) hR
   have o4:wr.cell? ⟨w.heap.size,4,none⟩=some (.int .i64 0):=cell_of_row wr _ 4 _ _ (0,0) hR
   have o5:wr.cell? ⟨w.heap.size,5,none⟩=some (.string ⟨#[]⟩):=cell_of_row wr _ 5 _ _ (0,0) hR
   have y0:wr.frozen? ⟨w.heap.size,0,none⟩=false:=frozen_of_row wr _ 0 _ _ hR
   have y1:wr.frozen? ⟨w.heap.size,1,none⟩=false:=frozen_of_row wr _ 1 _ _ hR
   have y2:wr.frozen? ⟨w.heap.size,2,none⟩=false:=frozen_of_row wr _ 2 _ _ hR
   have y3:wr.frozen? ⟨w.heap.size,3,none⟩=false:=frozen_of_row wr _ 3 _ _ hR
   have y4:wr.frozen? ⟨w.heap.size,4,none⟩=false:=frozen_of_row wr _ 4 _ _ hR
   have y5:wr.frozen? ⟨w.heap.size,5,none⟩=false:=frozen_of_row wr _ 5 _ _ hR
   clear hX hR HX HB
   go_wp2_with fail
   refine bodyPost_ret (v:=.tuple #[.agg #[.string ⟨n.toArray⟩,.int .i64 i,.int .i64 a,.int .i64 b,.int .i64 c,.string ⟨st.toArray⟩],.bool true]) (by simp [results,Tryz.results185,go_sem,o0,o1,o2,o3,o4,o5]) rfl ⟨rfl,?_⟩
   exact (((((HWR.out.setCell (Nat.le_refl _) _).setCell (Nat.le_refl _) _).setCell (Nat.le_refl _) _).setCell (Nat.le_refl _) _).setCell (Nat.le_refl _) _).setCell (Nat.le_refl _) _

end Go.Proofs.YtphfinlfabklmaaGreat

end

section

namespace Go.Proofs.YtphfinlfabklmaaGreat
open Go.ChangeShapes Go.WideShapes Go.ChangeAt Go.RowKit Go.Deep

section
variable {H:Type} {enc:TypeId × Value→H} {w:World} {base:Nat} {spare:Nat→Bool} {held:Bool}

theorem list4B {α:Type} {l:List α} (h:l.length=4):∃ a b c d,l=[a,b,c,d]:=by
 match l,h with
 | [a,b,c,d],_ => exact⟨a,b,c,d,rfl⟩

theorem list6B {α:Type} {l:List α} (h:l.length=6):∃ a b c d e f,l=[a,b,c,d,e,f]:=by
 match l,h with
 | [a,b,c,d,e,f],_ => exact⟨a,b,c,d,e,f,rfl⟩

theorem trod_intB {fuel:Nat} {cs:List Value} {x:DataW H × List MemPlace} (h:DataW.trod enc Tryz.prog w base spare held fuel 3 cs=some x):∃ z,cs=[.int .i64 z]∧(Lit.int .i64 z).wf=true:=by
 obtain⟨z,e,_,hw⟩:=DataW.trod_int Tryz.underlying3 h
 exact⟨z,e,hw⟩

theorem trod_textB {fuel:Nat} {cs:List Value} {x:DataW H × List MemPlace} (h:DataW.trod enc Tryz.prog w base spare held fuel 9 cs=some x):∃ l:List UInt8,cs=[.string ⟨l.toArray⟩]:=by
 obtain⟨s,e,_,_⟩:=DataW.trod_string Tryz.underlying9 h
 exact⟨s.data.toList,by rw [e]⟩

theorem trod_valB {fuel:Nat} {cs:List Value} {x:DataW H × List MemPlace} (h:DataW.trod enc Tryz.prog w base spare held fuel 30 cs=some x) :
  ∃ v:Val,cs=[.int .i64 v.sh,.int .i64 v.pr,.int .i64 v.si,.string ⟨v.st.toArray⟩]∧ValFit v:=by
 obtain⟨xs,n,_,_,hl,hx,hf⟩:=DataW.trod_struct Tryz.underlying30 h
 have c35:Tryz.prog.cellsOf 30=4:=by kernel_rfl
 have c3:Tryz.prog.cellsOf 3=1:=by kernel_rfl
 have c9:Tryz.prog.cellsOf 9=1:=by kernel_rfl
 rw [c35] at hl
 obtain⟨a,b,c,d,rfl⟩:=list4B hl
 have get:∀ i,i < 4→xs[i]?=some (xs.getD i (.nil,[])):=fun i hi => by
  have:i < xs.length:=by rw [hx]; exact hi
  simp [List.getD,List.getElem?_eq_getElem this]
 have f0:DataW.trod enc Tryz.prog w base spare held n 3 (([a,b,c,d].drop 0).take (Tryz.prog.cellsOf 3))=some (xs.getD 0 (.nil,[])):=(hf 0 _ rfl).trans (get 0 (by omega))
 have f1:DataW.trod enc Tryz.prog w base spare held n 3 (([a,b,c,d].drop 1).take (Tryz.prog.cellsOf 3))=some (xs.getD 1 (.nil,[])):=(hf 1 _ rfl).trans (get 1 (by omega))
 have f2:DataW.trod enc Tryz.prog w base spare held n 3 (([a,b,c,d].drop 2).take (Tryz.prog.cellsOf 3))=some (xs.getD 2 (.nil,[])):=(hf 2 _ rfl).trans (get 2 (by omega))
 have f3:DataW.trod enc Tryz.prog w base spare held n 9 (([a,b,c,d].drop 3).take (Tryz.prog.cellsOf 9))=some (xs.getD 3 (.nil,[])):=(hf 3 _ rfl).trans (get 3 (by omega))
 rw [c3] at f0 f1 f2
 rw [c9] at f3
 obtain⟨z0,e0,w0⟩:=trod_intB f0
 obtain⟨z1,e1,w1⟩:=trod_intB f1
 obtain⟨z2,e2,w2⟩:=trod_intB f2
 obtain⟨l,e3⟩:=trod_textB f3
 simp at e0 e1 e2 e3
 subst e0 e1 e2 e3
 exact⟨⟨z0,z1,z2,l⟩,rfl,⟨w0,w1,w2⟩⟩

theorem trod_sesB (fuel:Nat) (cs:List Value) (x:DataW H × List MemPlace) (h:DataW.trod enc Tryz.prog w base spare held fuel 122 cs=some x) :
  ∃ s:Ses,cs=sesVals s∧SesFit s:=by
 obtain⟨xs,n,_,_,hl,hx,hf⟩:=DataW.trod_struct Tryz.underlying122 h
 have c6:Tryz.prog.cellsOf 122=6:=by kernel_rfl
 have c4:Tryz.prog.cellsOf 30=4:=by kernel_rfl
 have c3:Tryz.prog.cellsOf 3=1:=by kernel_rfl
 have c9:Tryz.prog.cellsOf 9=1:=by kernel_rfl
 rw [c6] at hl
 obtain⟨a,b,c,d,e,f,rfl⟩:=list6B hl
 have get:∀ i,i < 3→xs[i]?=some (xs.getD i (.nil,[])):=fun i hi => by
  have:i < xs.length:=by rw [hx]; exact hi
  simp [List.getD,List.getElem?_eq_getElem this]
 have f0:DataW.trod enc Tryz.prog w base spare held n 9 (([a,b,c,d,e,f].drop 0).take (Tryz.prog.cellsOf 9))=some (xs.getD 0 (.nil,[])):=(hf 0 _ rfl).trans (get 0 (by omega))
 have f1:DataW.trod enc Tryz.prog w base spare held n 3 (([a,b,c,d,e,f].drop 1).take (Tryz.prog.cellsOf 3))=some (xs.getD 1 (.nil,[])):=(hf 1 _ rfl).trans (get 1 (by omega))
 have f2:DataW.trod enc Tryz.prog w base spare held n 30 (([a,b,c,d,e,f].drop 2).take (Tryz.prog.cellsOf 30))=some (xs.getD 2 (.nil,[])):=(hf 2 _ rfl).trans (get 2 (by omega))
 rw [c9] at f0
 rw [c3] at f1
 rw [c4] at f2
 obtain⟨u,e0⟩:=trod_textB f0
 obtain⟨z,e1,w1⟩:=trod_intB f1
 obtain⟨v,e2,w2⟩:=trod_valB f2
 simp at e0 e1 e2
 obtain⟨rfl,rfl,rfl,rfl⟩:=e2
 subst e0 e1
 exact⟨⟨u,z,v⟩,rfl,⟨w1,w2.sh,w2.pr,w2.si⟩⟩

end

end Go.Proofs.YtphfinlfabklmaaGreat

end
