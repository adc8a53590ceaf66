/-
 TEXTS OF THE PROOF, one behind the other: VarTake, DigRow, Shelf, IdCmp, IdIs, IdFold, IdTake, Bytes.
-/
import Derived.Test.YtekkofldhhdpgaaGreatD01
import Derived.Laws.StructEq
import Derived.Laws.AppendOwnNone
import Derived.Laws.OwnMore
import Derived.Shelf.Strings.Builder1
import Derived.Shelf.Small.Bits
import Derived.Shelf.Small.Strs
import Derived.Shelf.Small.Wraps
import Derived.Shelf.Strings.BuilderF
import Derived.Shelf.Strings.BuilderK
import Derived.Shelf.Strings.BuilderRune
import Derived.Shelf.Slices.CompactS
import Derived.Shelf.SlicesE.Compact
import Derived.Shelf.SlSortCmp.Insertion
import Derived.Shelf.SlSortCmp.SiftDown1
import Derived.Shelf.SlSortCmp.HeapSort1
import Derived.Shelf.SlSortCmp.Insertion1
import Derived.Shelf.SlSortCmp.Median1
import Derived.Shelf.SlSortCmp.Pivot1
import Derived.Shelf.SlSortCmp.ReverseRange1
import Derived.Shelf.SlSortCmp.PartialInsertion1
import Derived.Shelf.SlSortCmp.PartitionEqual1
import Derived.Shelf.SlSortCmp.Partition1
import Derived.Shelf.SlSortCmp.Pdq1
import Derived.Shelf.SlSortCmp.Whole1
import Derived.Shelf.SlSortCmp.NoneTotal
import Derived.Test.YtekkofldhhdpgaaGreatRows
import Derived.Lib.OthersKept
import Derived.Lib.ConvBytes

set_option maxHeartbeats 12800000
set_option maxRecDepth 100000

section

namespace Go.Proofs.YtekkofldhhdpgaaGreat
open Go.RowKit

def tripleS (r:List UInt8 × Nat × Nat):Value:=.tuple #[.string ⟨r.1.toArray⟩,.int .i64 r.2.1,.int .i64 r.2.2]

theorem get_eq (l:List UInt8) (hl:l.length≤4294967296) (p:Int) (w:World) {n f er:Nat} (h:Hid (vget l p=(n,f,er))) :
  Calls Tryz.prog 132 #[.string ⟨l.toArray⟩,.int .i64 p] w fun e w' => e=.returned (.tuple #[.int .u64 n,.int .i64 f,.int .i64 er])∧w=w':=by
 have:=get_any l hl p w
 rwa [h.out] at this

set_option maxRecDepth 1000000 in
theorem take_any (l:List UInt8) (hl:l.length≤4294967296) (p most:Int) (hm:most≤9223372036854775807) (w:World) :
  Calls Tryz.prog 188 #[.string ⟨l.toArray⟩,.int .i64 p,.int .i64 most] w fun e w' => e=.returned (tripleS (vtake l p most))∧w=w':=by
 obtain⟨n,f,er,hg⟩ : ∃ n f er,vget l p=(n,f,er):=⟨_,_,_,rfl⟩
 obtain⟨hn,hf,_⟩:=vget_facts hg
 have HG:=hZq hg
 by_cases he:er=0
 ·subst he
  by_cases h1:most < 0
  ·have HR:Hid (vtake l p most=([],0,3)):=by show _=_; unfold vtake; rw [hg]; simp [h1]
   clear hg
   go_enter Tryz.func188,Tryz.ntmps188
   go_wp2_with (go_at_call 132; go_must (refine (get_eq l hl p _ HG).mono ?_); rintro e w' ⟨rfl,rfl⟩)
   go_ret3
   exact⟨by rw [HR.out]; rfl,rfl⟩
  ·have h1':0≤most:=by omega
   by_cases h2:most < (n:Int)
   ·have HR:Hid (vtake l p most=([],0,3)):=by show _=_; unfold vtake; rw [hg]; simp [h2]
    clear hg h1
    go_enter Tryz.func188,Tryz.ntmps188
    go_wp2_with (go_at_call 132; go_must (refine (get_eq l hl p _ HG).mono ?_); rintro e w' ⟨rfl,rfl⟩)
    go_ret3
    exact⟨by rw [HR.out]; rfl,rfl⟩
   ·by_cases h3:l.length - f < n
    ·have HR:Hid (vtake l p most=([],0,2)):=by show _=_; unfold vtake; rw [hg]; simp [h1,h2,h3]
     have h3':(l.length:Int) - f < n:=by omega
     clear hg h1 h3
     go_enter Tryz.func188,Tryz.ntmps188
     go_wp2_with (go_at_call 132; go_must (refine (get_eq l hl p _ HG).mono ?_); rintro e w' ⟨rfl,rfl⟩)
     go_ret3
     exact⟨by rw [HR.out]; rfl,rfl⟩
    ·have HR:Hid (vtake l p most=((l.drop f).take n,f+n,0)):=by show _=_; unfold vtake; rw [hg]; simp [h1,h2,h3]
     have h3':¬ (l.length:Int) - f < n:=by omega
     have hsl:=fun w => run_slice_bytes (P:=Tryz.prog) w 9 l f (f+n) f (f+n) rfl (by omega) Tryz.underlying9 (by omega) (by omega)
     rw [show f+n - f=n by omega] at hsl
     clear hg h1 h3
     go_enter Tryz.func188,Tryz.ntmps188
     go_wp2_with (go_at_call 132; go_must (refine (get_eq l hl p _ HG).mono ?_); rintro e w' ⟨rfl,rfl⟩)
     go_ret3
     exact⟨by rw [HR.out]; rfl,rfl⟩
 ·have HR:Hid (vtake l p most=([],0,er)):=by show _=_; unfold vtake; rw [hg]; simp [he]
  have t1:((er:Int) != 0)=true:=by simp; omega
  clear hg he
  go_enter Tryz.func188,Tryz.ntmps188
  go_wp2_with (go_at_call 132; go_must (refine (get_eq l hl p _ HG).mono ?_); rintro e w' ⟨rfl,rfl⟩)
  go_ret3
  exact⟨by rw [HR.out]; rfl,rfl⟩

theorem take_eq (l:List UInt8) (hl:l.length≤4294967296) (p most:Int) (hm:most≤9223372036854775807) (w:World) {t:List UInt8} {f er:Nat} (h:Hid (vtake l p most=(t,f,er))) :
  Calls Tryz.prog 188 #[.string ⟨l.toArray⟩,.int .i64 p,.int .i64 most] w fun e w' => e=.returned (.tuple #[.string ⟨t.toArray⟩,.int .i64 f,.int .i64 er])∧w=w':=by
 have:=take_any l hl p most hm w
 rwa [h.out] at this

end Go.Proofs.YtekkofldhhdpgaaGreat

end

section

namespace Go.Proofs.YtekkofldhhdpgaaGreat
open Go.RowKit

def rowVals (r:Row):List Value:=[.string ⟨r.c.toArray⟩,.int .i64 r.v.sh,.int .i64 r.v.pr,.int .i64 r.v.si,.string ⟨r.v.st.toArray⟩]

def Cells5 (w:World) (b o:Nat) (r:Row):Prop :=
 w.cell? ⟨b,o,none⟩=some (.string ⟨r.c.toArray⟩)∧w.cell? ⟨b,o+1,none⟩=some (.int .i64 r.v.sh)∧w.cell? ⟨b,o+2,none⟩=some (.int .i64 r.v.pr) ∧
  w.cell? ⟨b,o+3,none⟩=some (.int .i64 r.v.si)∧w.cell? ⟨b,o+4,none⟩=some (.string ⟨r.v.st.toArray⟩)

theorem Cells5.later {w w':World} {b o:Nat} {r:Row} (h:Cells5 w b o r) (hb:Below w.heap.size w w') (hlt:b < w.heap.size):Cells5 w' b o r:=by
 obtain⟨h0,h1,h2,h3,h4⟩:=h
 have k:∀ o,w'.cell? ⟨b,o,none⟩=w.cell? ⟨b,o,none⟩:=fun o => hb.cell (p:=⟨b,o,none⟩) hlt
 exact⟨(k _).trans h0,(k _).trans h1,(k _).trans h2,(k _).trans h3,(k _).trans h4⟩

def Tab (w:World) (v:Value) (t:List Row):Prop :=
 ∃ a cap,v=.slice a t.length cap∧t.length≤cap∧cap≤maxLen∧(a=none→cap=0) ∧
  (t=[]∨∃ b off,a=some ⟨b,off,none⟩∧b < w.heap.size∧∀ i,i < t.length→Cells5 w b (off+i * 5) (t.getD i Row.zero))

theorem Tab.later {w w':World} {v:Value} {t:List Row} (h:Tab w v t) (hb:Below w.heap.size w w'):Tab w' v t:=by
 obtain⟨a,cap,h1,h2,h3,h4,h5⟩:=h
 refine ⟨a,cap,h1,h2,h3,h4,?_⟩
 rcases h5 with h5 | ⟨b,off,e,hlt,hc⟩
 ·exact .inl h5
 ·exact .inr ⟨b,off,e,Nat.lt_of_lt_of_le hlt hb.size,fun i hi => (hc i hi).later hb hlt⟩

theorem tab_nil (w:World):Tab w (.slice none 0 0) []:=⟨none,0,rfl,by simp,by simp,fun _ => rfl,.inl rfl⟩

theorem Tab.row {w wr:World} {a:Option Addr} {n cap:Nat} {t:List Row} (h:Tab w (.slice a n cap) t) (hb:Below w.heap.size w wr) (k:Nat) (hk:k < t.length) :
  ∃ b off,a=some ⟨b,off,none⟩∧Cells5 wr b (off+k * 5) (t.getD k Row.zero):=by
 obtain⟨a',cap',e,_,_,_,h⟩:=h.later hb
 simp only [Value.slice.injEq] at e
 rcases h with h | ⟨b,off,e',_,hc⟩
 ·rw [h] at hk; simp at hk
 ·exact⟨b,off,e.1.trans e',hc k hk⟩

theorem Tab.open' {w:World} {v:Value} {t:List Row} (h:Tab w v t):∃ a cap,v=.slice a t.length cap∧t.length≤9223372036854775807:=by
 obtain⟨a,cap,e,h1,h2,_⟩:=h
 unfold maxLen at h2
 exact⟨a,cap,e,by omega⟩

def Short (t:List Row):Prop:=∀ r ∈ t,r.c.length≤4294967296∧r.v.st.length≤4294967296

theorem Short.get {t:List Row} (h:Short t) {k:Nat} (hk:k < t.length):(t.getD k Row.zero).c.length≤4294967296∧(t.getD k Row.zero).v.st.length≤4294967296:=by
 rw [← row_get hk]
 exact h _ (List.getElem_mem hk)

/-! ### '==' -/

theorem val_eqIn (d:Nat) (a b c a' b' c':Int) (s s':List UInt8) (w:World) :
  (Op.equalIn (d+1+1) 26 (.agg #[.int .i64 a,.int .i64 b,.int .i64 c,.string ⟨s.toArray⟩]) (.agg #[.int .i64 a',.int .i64 b',.int .i64 c',.string ⟨s'.toArray⟩])).run Tryz.prog w=.ok (vSame ⟨a,b,c,s⟩ ⟨a',b',c',s'⟩) w:=by
 have hS:Tryz.prog.underlying 26=some (.struct (Tryz.prog.fieldsOf 26)):=by kernel_rfl
 have hp:Tryz.prog.stoodInHeld 26=false:=by kernel_rfl
 have u3:=Tryz.underlying3
 have u9:=Tryz.underlying9
 have a3:=Tryz.isAgg3
 have z3:=Tryz.sizeOf3
 have a9:=Tryz.isAgg9
 have z9:=Tryz.sizeOf9
 rw [run_equalIn_agg w (d+1) 26 _ _ hS hp]
 simp only [Program.fieldsOf,Tryz.underlying26]
 go_simp
 unfold vSame
 by_cases h1:a=a' <;> by_cases h2:b=b' <;> by_cases h3:c=c' <;> by_cases h4:s=s' <;> simp [h1,h2,h3,h4]

theorem val_eql5 (a b c a' b' c':Int) (s s':List UInt8) (w:World) :
  (binOp .eql 26 (.agg #[.int .i64 a,.int .i64 b,.int .i64 c,.string ⟨s.toArray⟩]) (.agg #[.int .i64 a',.int .i64 b',.int .i64 c',.string ⟨s'.toArray⟩])).run Tryz.prog w=.ok (.bool (vSame ⟨a,b,c,s⟩ ⟨a',b',c',s'⟩)) w:=by
 rw [run_eql_struct,show (10000:Nat)=9998+1+1 from rfl,val_eqIn 9998]
 rfl

theorem row_eqIn (d:Nat) (k k':List UInt8) (a b c a' b' c':Int) (s s':List UInt8) (w:World) :
  (Op.equalIn (d+1+1+1) 93 (.agg #[.string ⟨k.toArray⟩,.int .i64 a,.int .i64 b,.int .i64 c,.string ⟨s.toArray⟩]) (.agg #[.string ⟨k'.toArray⟩,.int .i64 a',.int .i64 b',.int .i64 c',.string ⟨s'.toArray⟩])).run Tryz.prog w=.ok (rSame ⟨k,a,b,c,s⟩ ⟨k',a',b',c',s'⟩) w:=by
 have hS:Tryz.prog.underlying 93=some (.struct (Tryz.prog.fieldsOf 93)):=by kernel_rfl
 have hp:Tryz.prog.stoodInHeld 93=false:=by kernel_rfl
 have u9:=Tryz.underlying9
 have a9:=Tryz.isAgg9
 have z9:=Tryz.sizeOf9
 have a35:=Tryz.isAgg26
 have z35:=Tryz.sizeOf26
 have hv:=fun w => val_eqIn d a b c a' b' c' s s' w
 rw [run_equalIn_agg w (d+1+1) 93 _ _ hS hp]
 simp only [Program.fieldsOf,Tryz.underlying93]
 clear hS hp
 go_simp
 unfold rSame
 by_cases hk:k=k'
 ·subst hk
  cases vSame ⟨a,b,c,s⟩ ⟨a',b',c',s'⟩ <;> simp
 ·have:(k == k')=false:=by simpa using hk
  rw [if_neg hk]
  simp [this]

theorem row_neq5 (k k':List UInt8) (a b c a' b' c':Int) (s s':List UInt8) (w:World) :
  (binOp .neq 93 (.agg #[.string ⟨k.toArray⟩,.int .i64 a,.int .i64 b,.int .i64 c,.string ⟨s.toArray⟩]) (.agg #[.string ⟨k'.toArray⟩,.int .i64 a',.int .i64 b',.int .i64 c',.string ⟨s'.toArray⟩])).run Tryz.prog w=.ok (.bool (!rSame ⟨k,a,b,c,s⟩ ⟨k',a',b',c',s'⟩)) w:=by
 rw [run_neq_struct,show (10000:Nat)=9997+1+1+1 from rfl,row_eqIn 9997]
 rfl

theorem chg_eqIn (d:Nat) (k k':List UInt8) (o o':Bool) (a b c a' b' c':Int) (s s':List UInt8) (w:World) :
  (Op.equalIn (d+1+1+1) 58 (.agg #[.string ⟨k.toArray⟩,.bool o,.int .i64 a,.int .i64 b,.int .i64 c,.string ⟨s.toArray⟩]) (.agg #[.string ⟨k'.toArray⟩,.bool o',.int .i64 a',.int .i64 b',.int .i64 c',.string ⟨s'.toArray⟩])).run Tryz.prog w=.ok (cSame ⟨k,o,a,b,c,s⟩ ⟨k',o',a',b',c',s'⟩) w:=by
 have hS:Tryz.prog.underlying 58=some (.struct (Tryz.prog.fieldsOf 58)):=by kernel_rfl
 have hp:Tryz.prog.stoodInHeld 58=false:=by kernel_rfl
 have u4:=Tryz.underlying4
 have a4:=Tryz.isAgg4
 have z4:=Tryz.sizeOf4
 have u9:=Tryz.underlying9
 have a9:=Tryz.isAgg9
 have z9:=Tryz.sizeOf9
 have a35:=Tryz.isAgg26
 have z35:=Tryz.sizeOf26
 have hv:=fun w => val_eqIn d a b c a' b' c' s s' w
 rw [run_equalIn_agg w (d+1+1) 58 _ _ hS hp]
 simp only [Program.fieldsOf,Tryz.underlying58]
 clear hS hp
 go_simp
 unfold cSame
 by_cases hk:k=k'
 ·subst hk
  cases o <;> cases o' <;> cases vSame ⟨a,b,c,s⟩ ⟨a',b',c',s'⟩ <;> simp
 ·have:(k == k')=false:=by simpa using hk
  rw [if_neg hk]
  simp [this]

theorem chg_eql6 (k k':List UInt8) (o o':Bool) (a b c a' b' c':Int) (s s':List UInt8) (w:World) :
  (binOp .eql 58 (.agg #[.string ⟨k.toArray⟩,.bool o,.int .i64 a,.int .i64 b,.int .i64 c,.string ⟨s.toArray⟩]) (.agg #[.string ⟨k'.toArray⟩,.bool o',.int .i64 a',.int .i64 b',.int .i64 c',.string ⟨s'.toArray⟩])).run Tryz.prog w=.ok (.bool (cSame ⟨k,o,a,b,c,s⟩ ⟨k',o',a',b',c',s'⟩)) w:=by
 rw [run_eql_struct,show (10000:Nat)=9997+1+1+1 from rfl,chg_eqIn 9997]
 rfl

/-! ### Few -/

def fewT (t:List Row):Bool:=decide (t.length≤40) && t.all fun r => decide (r.c.length≤60) && decide (r.v.st.length≤100)

theorem fewT_yes {t:List Row} (h:fewT t=true):t.length≤40∧∀ r ∈ t,r.c.length≤60∧r.v.st.length≤100:=by
 unfold fewT at h
 simp only [Bool.and_eq_true,decide_eq_true_eq,List.all_eq_true] at h
 exact h

theorem fewT_off {t:List Row} {k:Nat} (hk:k < t.length) (h:60 < (t.getD k Row.zero).c.length∨100 < (t.getD k Row.zero).v.st.length):fewT t=false:=by
 rw [Bool.eq_false_iff]
 intro h'
 have hm:t.getD k Row.zero ∈ t:=by rw [← row_get hk]; exact List.getElem_mem hk
 have:=(fewT_yes h').2 _ hm
 omega

theorem fewT_on {t:List Row} (h1:t.length≤40) (h2:∀ k,k < t.length→(t.getD k Row.zero).c.length≤60∧(t.getD k Row.zero).v.st.length≤100):fewT t=true:=by
 unfold fewT
 simp only [Bool.and_eq_true,decide_eq_true_eq,List.all_eq_true]
 refine ⟨h1,fun r hr => ?_⟩
 obtain⟨k,hk,rfl⟩:=List.getElem_of_mem hr
 rw [row_get hk]
 exact h2 k hk

theorem fewt_any {w:World} {v:Value} {t:List Row} (hv:Tab w v t) :
  Calls Tryz.prog 38 #[v] w fun e w' => e=.returned (.bool (fewT t))∧w=w':=by
 have HV:=hZq hv
 obtain⟨a,cap,rfl,hm⟩:=hv.open'
 clear hv
 by_cases h:40 < t.length
 ·have HR:Hid (fewT t=false):=by show _=_; unfold fewT; simp; omega
  go_enter Tryz.func38,Tryz.ntmps38
  go_wp2_with fail
  go_ret
  exact⟨by rw [HR.out]; rfl,rfl⟩
 ·go_enter Tryz.func38,Tryz.ntmps38
  go_wp2_with fail
  go_loop [3] (fun i => ∃ k:Nat,k≤t.length∧i=.int .i64 k∧Hid (∀ j,j < k→(t.getD j Row.zero).c.length≤60∧(t.getD j Row.zero).v.st.length≤100)) (fun i => t.length - (intOf i).toNat)
  case atStart => exact⟨0,by omega,rfl,fun j hj => absurd hj (by omega)⟩
  case round =>
   obtain⟨k,hk,rfl,HA⟩:=hrel
   by_cases hlt:k < t.length
   ·obtain⟨b,off,rfl,h0,h1,h2,h3,h4⟩:=HV.out.row (Below.refl _ _) k hlt
    obtain⟨r,hr⟩ : ∃ r,t.getD k Row.zero=r:=⟨_,rfl⟩
    rw [hr] at h0 h1 h2 h3 h4
    have HRr:=hZq hr
    clear hr
    by_cases hn:60 < r.c.length
    ·have HR:Hid (fewT t=false):=by show _=_; exact fewT_off hlt (.inl (by rw [HRr.out]; exact hn))
     have t1:decide (60 < r.c.length)=true:=by simpa using hn
     go_wp2_with fail
     go_ret
     exact⟨by rw [HR.out]; rfl,rfl⟩
    ·by_cases hs:100 < r.v.st.length
     ·have HR:Hid (fewT t=false):=by show _=_; exact fewT_off hlt (.inr (by rw [HRr.out]; exact hs))
      go_wp2_with fail
      go_ret
      exact⟨by rw [HR.out]; rfl,rfl⟩
     ·have HN:Hid (∀ j,j < k+1→(t.getD j Row.zero).c.length≤60∧(t.getD j Row.zero).v.st.length≤100):=by
       show ∀ j,j < k+1→_
       intro j hj
       by_cases hjk:j=k
       ·rw [hjk,HRr.out]; omega
       ·exact HA.out j (by omega)
      go_wp2_with fail
      go_round
      case rel => exact⟨k+1,by omega,by go_num,HN⟩
      case measure => simp [intOf]; omega
   ·obtain rfl:k=t.length:=by omega
    have HR:Hid (fewT t=true):=by show _=_; exact fewT_on (by omega) HA.out
    go_wp2_with fail
    go_ret
    exact⟨by rw [HR.out]; rfl,rfl⟩

theorem fewt_eq {w:World} {v:Value} {t:List Row} (hv:Tab w v t) {r:Bool} (h:Hid (fewT t=r)) :
  Calls Tryz.prog 38 #[v] w fun e w' => e=.returned (.bool r)∧w=w':=by
 have:=fewt_any hv
 rwa [h.out] at this

/-! ### Two tables -/

theorem tSame_next {t u:List Row} {k:Nat} (h:(List.range k).all (fun i => rSame (t.getD i Row.zero) (u.getD i Row.zero))=true) (hk:rSame (t.getD k Row.zero) (u.getD k Row.zero)=true) :
  (List.range (k+1)).all (fun i => rSame (t.getD i Row.zero) (u.getD i Row.zero))=true:=range_all_succ h hk

theorem tsame_any {w:World} {v u:Value} {t s:List Row} (hv:Tab w v t) (hu:Tab w u s) :
  Calls Tryz.prog 34 #[v,u] w fun e w' => e=.returned (.bool (tSame t s))∧Below w.heap.size w w':=by
 have HV:=hZq hv
 have HU:=hZq hu
 obtain⟨a,cap,rfl,hm⟩:=hv.open'
 obtain⟨a2,cap2,rfl,hm2⟩:=hu.open'
 clear hv hu
 by_cases hl:t.length=s.length
 ·have HL:=hZq hl
  have t1:((t.length:Int) != (s.length:Int))=false:=by simp [hl]
  clear hl
  go_enter Tryz.func34,Tryz.ntmps34
  go_wp2_with fail
  go_loopw [5] (fun i wr => ∃ k:Nat,k≤t.length∧i=.int .i64 k∧Hid (Below w.heap.size w wr)∧Hid ((List.range k).all (fun i => rSame (t.getD i Row.zero) (s.getD i Row.zero))=true)) (fun i _ => t.length - (intOf i).toNat)
  case atStart => exact⟨0,by omega,rfl,Below.refl _ _,by show _=_; simp⟩
  case round =>
   obtain⟨k,hk,rfl,HN,HA⟩:=hrel
   by_cases hlt:k < t.length
   ·obtain⟨b,off,rfl,h0,h1,h2,h3,h4⟩:=HV.out.row HN.out k hlt
    obtain⟨b2,off2,rfl,i0,i1,i2,i3,i4⟩:=HU.out.row HN.out k (by rw [← HL.out]; exact hlt)
    have hlt2:k < s.length:=by rw [← HL.out]; exact hlt
    obtain⟨⟨c,⟨x,y,z,st⟩⟩,hr⟩ : ∃ r,t.getD k Row.zero=r:=⟨_,rfl⟩
    obtain⟨⟨c',⟨x',y',z',st'⟩⟩,hr'⟩ : ∃ r,s.getD k Row.zero=r:=⟨_,rfl⟩
    rw [hr] at h0 h1 h2 h3 h4
    rw [hr'] at i0 i1 i2 i3 i4
    have hgd:Tryz.prog.eqGuardType Tryz.prog.depth 93=false:=by kernel_rfl
    have hne:=row_neq5 c c' x y z x' y' z' st st'
    cases hs:rSame ⟨c,x,y,z,st⟩ ⟨c',x',y',z',st'⟩ with
    | false =>
     have HR:Hid (tSame t s=false):=by show _=_; exact tSame_off hlt (by rw [hr,hr']; exact hs)
     rw [hs] at hne
     simp only at h0 h1 h2 h3 h4 i0 i1 i2 i3 i4
     clear hr hr' hs
     go_wp2_with fail
     go_region
     go_wp2_with fail
     go_ret
     exact⟨by rw [HR.out]; rfl,HN.out.drew⟩
    | true =>
     have HA2:Hid ((List.range (k+1)).all (fun i => rSame (t.getD i Row.zero) (s.getD i Row.zero))=true):=by show _=_; exact tSame_next HA.out (by rw [hr,hr']; exact hs)
     rw [hs] at hne
     simp only at h0 h1 h2 h3 h4 i0 i1 i2 i3 i4
     clear hr hr' hs
     go_wp2_with fail
     go_region
     go_wp2_with fail
     go_roundw
     case rel => exact⟨k+1,by omega,by go_num,HN.out.drew,HA2⟩
     case measure => simp [intOf]; omega
   ·obtain rfl:k=t.length:=by omega
    have HR:Hid (tSame t s=true):=by show _=_; exact tSame_on HL.out HA.out
    go_wp2_with fail
    go_ret
    exact⟨by rw [HR.out]; rfl,HN.out⟩
 ·have HR:=hZq (tSame_len hl)
  have t1:((t.length:Int) != (s.length:Int))=true:=by simp; omega
  clear hl
  go_enter Tryz.func34,Tryz.ntmps34
  go_wp2_with fail
  go_ret
  exact⟨by rw [HR.out]; rfl,Below.refl _ _⟩

theorem tsame_eq {w:World} {v u:Value} {t s:List Row} (hv:Tab w v t) (hu:Tab w u s) {r:Bool} (h:Hid (tSame t s=r)) :
  Calls Tryz.prog 34 #[v,u] w fun e w' => e=.returned (.bool r)∧Below w.heap.size w w':=by
 have:=tsame_any hv hu
 rwa [h.out] at this

end Go.Proofs.YtekkofldhhdpgaaGreat

end

section

namespace Go.Proofs.YtekkofldhhdpgaaGreat
open Go.Shelf Go.RowKit

def Tryz.lays169_ren:Go.Shelf.Ren:=⟨fun | 169 => 186 | n => n,fun | 70 => 187 | 9 => 9 | 0 => 0 | 72 => 189 | 37 => 150 | 127 => 201 | 3 => 3 | 5 => 5 | n => n,fun | n => n⟩

theorem Tryz.lays169:Go.Proofs.Lays.n169 Tryz.prog Tryz.lays169_ren:={
 mixed:=by kernel_rfl
 f169:=Tryz.func186.trans (congrArg some (by kernel_rfl))
 t0:=Tryz.underlying0
 a0:=Tryz.isAgg0
 z0:=Tryz.sizeOf0
 v0:=Tryz.zeroValue0
 t3:=Tryz.underlying3
 a3:=Tryz.isAgg3
 z3:=Tryz.sizeOf3
 v3:=Tryz.zeroValue3
 t9:=Tryz.underlying9
 a9:=Tryz.isAgg9
 z9:=Tryz.sizeOf9
 v9:=Tryz.zeroValue9
 t37:=Tryz.underlying150
 a37:=Tryz.isAgg150
 z37:=Tryz.sizeOf150
 v37:=Tryz.zeroValue150
 t70:=Tryz.underlying187
 a70:=Tryz.isAgg187
 z70:=Tryz.sizeOf187
 v70:=Tryz.zeroValue187
 t72:=Tryz.underlying189
 a72:=Tryz.isAgg189
 z72:=Tryz.sizeOf189
 v72:=Tryz.zeroValue189
 t127:=Tryz.underlying201
 a127:=Tryz.isAgg201
 z127:=Tryz.sizeOf201
 v127:=Tryz.zeroValue201 }

theorem Tryz.Builder_Extra_169:Builder.Extra Tryz.prog Tryz.lays169_ren:={
 sizeBuilder:=by kernel_rfl
 liesBuilder:=by kernel_rfl
 t5:=Tryz.underlying5
 a5:=Tryz.isAgg5
 z5:=Tryz.sizeOf5
 v5:=Tryz.zeroValue5
 infoByte:=by kernel_rfl
 cellsByte:=by kernel_rfl
 sizeByte:=by kernel_rfl
 neB5:=by decide }

def Tryz.lays106_ren:Go.Shelf.Ren:=⟨fun | 106 => 176 | 213 => 191 | 265 => 196 | n => n,fun | 9 => 9 | 3 => 3 | n => n,fun | n => n⟩

theorem Tryz.lays106:Go.Proofs.Lays.n106 Tryz.prog Tryz.lays106_ren:={
 mixed:=by kernel_rfl
 f106:=Tryz.func176.trans (congrArg some (by kernel_rfl))
 f213:=Tryz.func191.trans (congrArg some (by kernel_rfl))
 f265:=Tryz.func196.trans (congrArg some (by kernel_rfl))
 t3:=Tryz.underlying3
 a3:=Tryz.isAgg3
 z3:=Tryz.sizeOf3
 v3:=Tryz.zeroValue3
 t9:=Tryz.underlying9
 a9:=Tryz.isAgg9
 z9:=Tryz.sizeOf9
 v9:=Tryz.zeroValue9 }

open Go.RowKit in
theorem Tryz.strings_Compare (a b:ByteArray) (w:World) :
  Calls Tryz.prog 176 #[.string a,.string b] w fun e w' => e=.returned (.int .i64 (Lib.compareBytes a.data.toList b.data.toList))∧w'=w:=Any.strings_Compare Tryz.lays106 a b w

def Tryz.lays122_ren:Go.Shelf.Ren:=⟨fun | 122 => 175 | 215 => 190 | n => n,fun | 3 => 3 | 4 => 4 | n => n,fun | n => n⟩

theorem Tryz.lays122:Go.Proofs.Lays.n122 Tryz.prog Tryz.lays122_ren:={
 mixed:=by kernel_rfl
 f122:=Tryz.func175.trans (congrArg some (by kernel_rfl))
 f215:=Tryz.func190.trans (congrArg some (by kernel_rfl))
 t3:=Tryz.underlying3
 a3:=Tryz.isAgg3
 z3:=Tryz.sizeOf3
 v3:=Tryz.zeroValue3
 t4:=Tryz.underlying4
 a4:=Tryz.isAgg4
 z4:=Tryz.sizeOf4
 v4:=Tryz.zeroValue4 }

open Go.RowKit in
theorem Tryz.cmp_Compare_int (x y:Int) (w:World) :
  Calls Tryz.prog 175 #[.int .i64 x,.int .i64 y] w fun e w' => e=.returned (.int .i64 (Lib.compareInt x y))∧w'=w:=Any.cmp_Compare_int Tryz.lays122 x y w

open Go.RowKit in
theorem Tryz.Builder_String_any_k (B b:Nat) (l:List UInt8) (w:World) (h:Lib.IsBuilderF 189 5 B b (Lib.byteCells l) w) (hBw:B≤w.heap.size) :
  Calls Tryz.prog 186 #[.pointer (some ⟨b,0,none⟩)] w fun e w' => e=.returned (.string ⟨l.toArray⟩)∧(Lib.IsBuilderF 189 5 B b (Lib.byteCells l) w'∧Below B w w'∧Lib.OthersKept 5 (some b) w w'):=Any.Builder_String_any_k Tryz.lays169 Tryz.Builder_Extra_169 B b l w h hBw

def Tryz.lays194_ren:Go.Shelf.Ren:=⟨fun | 194 => 199 | n => n,fun | 31 => 198 | 9 => 9 | 3 => 3 | 4 => 4 | 0 => 0 | n => n,fun | n => n⟩

theorem Tryz.lays194:Go.Proofs.Lays.n194 Tryz.prog Tryz.lays194_ren:={
 mixed:=by kernel_rfl
 f194:=Tryz.func199.trans (congrArg some (by kernel_rfl))
 t0:=Tryz.underlying0
 a0:=Tryz.isAgg0
 z0:=Tryz.sizeOf0
 v0:=Tryz.zeroValue0
 t3:=Tryz.underlying3
 a3:=Tryz.isAgg3
 z3:=Tryz.sizeOf3
 v3:=Tryz.zeroValue3
 t4:=Tryz.underlying4
 a4:=Tryz.isAgg4
 z4:=Tryz.sizeOf4
 v4:=Tryz.zeroValue4
 t9:=Tryz.underlying9
 a9:=Tryz.isAgg9
 z9:=Tryz.sizeOf9
 v9:=Tryz.zeroValue9
 t31:=Tryz.underlying198
 a31:=Tryz.isAgg198
 z31:=Tryz.sizeOf198
 v31:=Tryz.zeroValue198 }

open Go.RowKit Go.Lib Go.Sort in
theorem Tryz.slices_Compact_string_empty (a:Option Addr) (cap:Nat) (w:World) :
  Calls Tryz.prog 199 #[.slice a 0 cap] w fun e w' => e=.returned (.slice a 0 cap)∧w'=w:=Any.slices_Compact_string_empty Tryz.lays194 a cap w

def Tryz.laysSlE43_f37_ren:Go.Shelf.Ren:=⟨fun | 43 => 199 | n => n,fun | 22 => 198 | 23 => 9 | 3 => 3 | 4 => 4 | 0 => 0 | n => n,fun | n => n⟩

theorem Tryz.laysSlE43_f37:Go.Proofs.SlLaysE.n43 Tryz.prog Tryz.laysSlE43_f37_ren:={
 mixed:=by kernel_rfl
 f43:=⟨Tryz.f199.name,by decide,Tryz.func199.trans (congrArg some (by kernel_rfl))⟩
 t0:=Tryz.underlying0
 a0:=Tryz.isAgg0
 z0:=Tryz.sizeOf0
 v0:=Tryz.zeroValue0
 t3:=Tryz.underlying3
 a3:=Tryz.isAgg3
 z3:=Tryz.sizeOf3
 v3:=Tryz.zeroValue3
 t4:=Tryz.underlying4
 a4:=Tryz.isAgg4
 z4:=Tryz.sizeOf4
 v4:=Tryz.zeroValue4
 t22:=Tryz.underlying198
 a22:=Tryz.isAgg198
 z22:=Tryz.sizeOf198
 v22:=Tryz.zeroValue198
 a23:=Tryz.isAgg9
 z23:=Tryz.sizeOf9 }

open Go.RowKit Go.Lib Go.Sort in
theorem Tryz.slices_Compact {α:Type} [Inhabited α] [DecidableEq α] (enc:α→Value) (hO:OneCell enc) (heq:EqlAt Tryz.prog 9 enc (fun x y => decide (x=y))) (hne:NeqAt Tryz.prog 9 enc (fun x y => decide (x=y))) (zr:α) (v23:∀ w,(zeroValue 9).run Tryz.prog w=.ok (enc zr) w) (blk off cap:Nat) (d:Array α) (w:World) (hH:Holds enc w blk off d) (hsz:d.size≤9223372036854775807) (hcap:d.size≤cap) :
  Calls Tryz.prog 199 #[.slice (some ⟨blk,off,none⟩) d.size cap] w fun e w' => e=.returned (.slice (some ⟨blk,off,none⟩) (compactUpTo d d.size).length cap)∧∃ q,w'=putRow enc (Sort.ahead w q) blk off (compactUpTo d d.size ++ List.replicate (d.size - (compactUpTo d d.size).length) zr).toArray:=AnyE.slices_Compact Tryz.laysSlE43_f37 enc hO heq hne zr v23 blk off cap d w hH hsz hcap

def Tryz.laysSlF6_f36_ren:Go.Shelf.Ren:=⟨fun | 6 => 198 | 15 => 204 | 14 => 203 | 28 => 213 | 29 => 214 | 20 => 205 | 21 => 206 | 22 => 207 | 23 => 208 | 24 => 209 | 25 => 210 | 26 => 211 | 27 => 212 | 46 => 215 | 47 => 216 | 48 => 217 | 49 => 218 | 50 => 219 | 57 => 220 | n => n,fun | 22 => 198 | 24 => 9 | 25 => 161 | 3 => 3 | 39 => 149 | 0 => 0 | 53 => 147 | 55 => 27 | 4 => 4 | 46 => 214 | 45 => 213 | 50 => 133 | 5 => 5 | 9 => 9 | 66 => 221 | 70 => 225 | 76 => 227 | 77 => 228 | n => n,fun | n => n⟩

theorem Tryz.laysSlF6_f36:Go.Proofs.SlLaysF.n6 Tryz.prog Tryz.laysSlF6_f36_ren:={
 mixed:=by kernel_rfl
 f6:=⟨Tryz.f198.name,by decide,Tryz.func198.trans (congrArg some (by kernel_rfl))⟩
 f14:=⟨Tryz.f203.name,by decide,Tryz.func203.trans (congrArg some (by kernel_rfl))⟩
 f15:=Tryz.func204.trans (congrArg some (by kernel_rfl))
 f20:=⟨Tryz.f205.name,by decide,Tryz.func205.trans (congrArg some (by kernel_rfl))⟩
 f21:=⟨Tryz.f206.name,by decide,Tryz.func206.trans (congrArg some (by kernel_rfl))⟩
 f22:=⟨Tryz.f207.name,by decide,Tryz.func207.trans (congrArg some (by kernel_rfl))⟩
 f23:=⟨Tryz.f208.name,by decide,Tryz.func208.trans (congrArg some (by kernel_rfl))⟩
 f24:=⟨Tryz.f209.name,by decide,Tryz.func209.trans (congrArg some (by kernel_rfl))⟩
 f25:=⟨Tryz.f210.name,by decide,Tryz.func210.trans (congrArg some (by kernel_rfl))⟩
 f26:=⟨Tryz.f211.name,by decide,Tryz.func211.trans (congrArg some (by kernel_rfl))⟩
 f27:=⟨Tryz.f212.name,by decide,Tryz.func212.trans (congrArg some (by kernel_rfl))⟩
 f28:=Tryz.func213.trans (congrArg some (by kernel_rfl))
 f29:=Tryz.func214.trans (congrArg some (by kernel_rfl))
 f46:=⟨Tryz.f215.name,by decide,Tryz.func215.trans (congrArg some (by kernel_rfl))⟩
 f47:=Tryz.func216.trans (congrArg some (by kernel_rfl))
 f48:=Tryz.func217.trans (congrArg some (by kernel_rfl))
 f49:=⟨Tryz.f218.name,by decide,Tryz.func218.trans (congrArg some (by kernel_rfl))⟩
 f50:=⟨Tryz.f219.name,by decide,Tryz.func219.trans (congrArg some (by kernel_rfl))⟩
 f57:=⟨Tryz.f220.name,by decide,Tryz.func220.trans (congrArg some (by kernel_rfl))⟩
 t0:=Tryz.underlying0
 a0:=Tryz.isAgg0
 z0:=Tryz.sizeOf0
 v0:=Tryz.zeroValue0
 t3:=Tryz.underlying3
 a3:=Tryz.isAgg3
 z3:=Tryz.sizeOf3
 v3:=Tryz.zeroValue3
 t4:=Tryz.underlying4
 a4:=Tryz.isAgg4
 z4:=Tryz.sizeOf4
 v4:=Tryz.zeroValue4
 t5:=Tryz.underlying5
 a5:=Tryz.isAgg5
 z5:=Tryz.sizeOf5
 v5:=Tryz.zeroValue5
 t9:=Tryz.underlying9
 a9:=Tryz.isAgg9
 z9:=Tryz.sizeOf9
 v9:=Tryz.zeroValue9
 t22:=Tryz.underlying198
 a22:=Tryz.isAgg198
 z22:=Tryz.sizeOf198
 v22:=Tryz.zeroValue198
 a24:=Tryz.isAgg9
 z24:=Tryz.sizeOf9
 t25:=Tryz.underlying161
 a25:=Tryz.isAgg161
 z25:=Tryz.sizeOf161
 v25:=Tryz.zeroValue161
 t39:=Tryz.underlying149
 a39:=Tryz.isAgg149
 z39:=Tryz.sizeOf149
 v39:=Tryz.zeroValue149
 t45:=Tryz.underlying213
 a45:=Tryz.isAgg213
 z45:=Tryz.sizeOf213
 v45:=Tryz.zeroValue213
 t46:=Tryz.underlying214
 a46:=Tryz.isAgg214
 z46:=Tryz.sizeOf214
 v46:=Tryz.zeroValue214
 t50:=Tryz.underlying133
 a50:=Tryz.isAgg133
 z50:=Tryz.sizeOf133
 v50:=Tryz.zeroValue133
 t53:=Tryz.underlying147
 a53:=Tryz.isAgg147
 z53:=Tryz.sizeOf147
 v53:=Tryz.zeroValue147
 t55:=Tryz.underlying27
 a55:=Tryz.isAgg27
 z55:=Tryz.sizeOf27
 v55:=Tryz.zeroValue27
 t66:=Tryz.underlying221
 a66:=Tryz.isAgg221
 z66:=Tryz.sizeOf221
 v66:=Tryz.zeroValue221
 t70:=Tryz.underlying225
 a70:=Tryz.isAgg225
 z70:=Tryz.sizeOf225
 v70:=Tryz.zeroValue225
 t76:=Tryz.underlying227
 a76:=Tryz.isAgg227
 z76:=Tryz.sizeOf227
 v76:=Tryz.zeroValue227
 t77:=Tryz.underlying228
 a77:=Tryz.isAgg228
 z77:=Tryz.sizeOf228
 v77:=Tryz.zeroValue228 }

def Tryz.laysSlF06_f36_ren:Go.Shelf.Ren:=⟨fun | 6 => 198 | 15 => 204 | 14 => 203 | 28 => 213 | 29 => 214 | 20 => 205 | 21 => 206 | 22 => 207 | 23 => 208 | 24 => 209 | 25 => 210 | 26 => 211 | 27 => 212 | 46 => 215 | 47 => 216 | 48 => 217 | 49 => 218 | 50 => 219 | 57 => 220 | n => n,fun | 22 => 198 | 24 => 9 | 25 => 161 | 3 => 3 | 39 => 149 | 0 => 0 | 53 => 147 | 55 => 27 | 4 => 4 | 46 => 214 | 45 => 213 | 50 => 133 | 5 => 5 | 9 => 9 | 66 => 221 | 70 => 225 | 76 => 227 | 77 => 228 | n => n,fun | n => n⟩

theorem Tryz.laysSlF06_f36:Go.Proofs.SlLaysF0.n6 Tryz.prog Tryz.laysSlF06_f36_ren:={
 mixed:=by kernel_rfl
 f6:=⟨Tryz.f198.name,by decide,Tryz.func198.trans (congrArg some (by kernel_rfl))⟩
 f14:=⟨Tryz.f203.name,by decide,Tryz.func203.trans (congrArg some (by kernel_rfl))⟩
 f15:=Tryz.func204.trans (congrArg some (by kernel_rfl))
 f20:=⟨Tryz.f205.name,by decide,Tryz.func205.trans (congrArg some (by kernel_rfl))⟩
 f21:=⟨Tryz.f206.name,by decide,Tryz.func206.trans (congrArg some (by kernel_rfl))⟩
 f22:=⟨Tryz.f207.name,by decide,Tryz.func207.trans (congrArg some (by kernel_rfl))⟩
 f23:=⟨Tryz.f208.name,by decide,Tryz.func208.trans (congrArg some (by kernel_rfl))⟩
 f24:=⟨Tryz.f209.name,by decide,Tryz.func209.trans (congrArg some (by kernel_rfl))⟩
 f25:=⟨Tryz.f210.name,by decide,Tryz.func210.trans (congrArg some (by kernel_rfl))⟩
 f26:=⟨Tryz.f211.name,by decide,Tryz.func211.trans (congrArg some (by kernel_rfl))⟩
 f27:=⟨Tryz.f212.name,by decide,Tryz.func212.trans (congrArg some (by kernel_rfl))⟩
 f28:=Tryz.func213.trans (congrArg some (by kernel_rfl))
 f29:=Tryz.func214.trans (congrArg some (by kernel_rfl))
 f46:=⟨Tryz.f215.name,by decide,Tryz.func215.trans (congrArg some (by kernel_rfl))⟩
 f47:=Tryz.func216.trans (congrArg some (by kernel_rfl))
 f48:=Tryz.func217.trans (congrArg some (by kernel_rfl))
 f49:=⟨Tryz.f218.name,by decide,Tryz.func218.trans (congrArg some (by kernel_rfl))⟩
 f50:=⟨Tryz.f219.name,by decide,Tryz.func219.trans (congrArg some (by kernel_rfl))⟩
 f57:=⟨Tryz.f220.name,by decide,Tryz.func220.trans (congrArg some (by kernel_rfl))⟩
 t0:=Tryz.underlying0
 a0:=Tryz.isAgg0
 z0:=Tryz.sizeOf0
 v0:=Tryz.zeroValue0
 t3:=Tryz.underlying3
 a3:=Tryz.isAgg3
 z3:=Tryz.sizeOf3
 v3:=Tryz.zeroValue3
 t4:=Tryz.underlying4
 a4:=Tryz.isAgg4
 z4:=Tryz.sizeOf4
 v4:=Tryz.zeroValue4
 t5:=Tryz.underlying5
 a5:=Tryz.isAgg5
 z5:=Tryz.sizeOf5
 v5:=Tryz.zeroValue5
 t9:=Tryz.underlying9
 a9:=Tryz.isAgg9
 z9:=Tryz.sizeOf9
 v9:=Tryz.zeroValue9
 t22:=Tryz.underlying198
 a22:=Tryz.isAgg198
 z22:=Tryz.sizeOf198
 v22:=Tryz.zeroValue198
 t25:=Tryz.underlying161
 a25:=Tryz.isAgg161
 z25:=Tryz.sizeOf161
 v25:=Tryz.zeroValue161
 t39:=Tryz.underlying149
 a39:=Tryz.isAgg149
 z39:=Tryz.sizeOf149
 v39:=Tryz.zeroValue149
 t45:=Tryz.underlying213
 a45:=Tryz.isAgg213
 z45:=Tryz.sizeOf213
 v45:=Tryz.zeroValue213
 t46:=Tryz.underlying214
 a46:=Tryz.isAgg214
 z46:=Tryz.sizeOf214
 v46:=Tryz.zeroValue214
 t50:=Tryz.underlying133
 a50:=Tryz.isAgg133
 z50:=Tryz.sizeOf133
 v50:=Tryz.zeroValue133
 t53:=Tryz.underlying147
 a53:=Tryz.isAgg147
 z53:=Tryz.sizeOf147
 v53:=Tryz.zeroValue147
 t55:=Tryz.underlying27
 a55:=Tryz.isAgg27
 z55:=Tryz.sizeOf27
 v55:=Tryz.zeroValue27
 t66:=Tryz.underlying221
 a66:=Tryz.isAgg221
 z66:=Tryz.sizeOf221
 v66:=Tryz.zeroValue221
 t70:=Tryz.underlying225
 a70:=Tryz.isAgg225
 z70:=Tryz.sizeOf225
 v70:=Tryz.zeroValue225
 t76:=Tryz.underlying227
 a76:=Tryz.isAgg227
 z76:=Tryz.sizeOf227
 v76:=Tryz.zeroValue227
 t77:=Tryz.underlying228
 a77:=Tryz.isAgg228
 z77:=Tryz.sizeOf228
 v77:=Tryz.zeroValue228 }

open Go.RowKit Go.Lib Go.Sort in
theorem Tryz.slices_SortFunc_none {α:Type} [Inhabited α] (p:Option Addr) (cap:Nat) (fv:Value) (w:World) :
  Calls Tryz.prog 198 #[.slice p 0 cap,fv] w fun e w' => e=.returned (.tuple #[])∧w'=w:=AnyF.slices_SortFunc_none Tryz.laysSlF06_f36 p cap fv w

open Go.RowKit Go.Lib Go.Sort in
theorem Tryz.slices_SortFunc_total {α:Type} [Inhabited α] (enc:α→Value) (h1:OneCell enc) (cf:α→α→Int) (hO:SWO (ltOf cf)) (g:Nat) (cb:Array Value) (blk off cap:Nat) (d:Array α) (w:World) (eg:∀ args w,(callFunc g args).run Tryz.prog w=.ok (.enter g args) w) (hcmp:CmpLays1 Tryz.prog g cb enc cf blk off d.size w) (hH:Holds enc w blk off d) (hblk:blk < w.heap.size) (hsz:d.size < 4611686018427387904) (hT:∀ x y,(ltOf cf) x y=false→(ltOf cf) y x=false→x=y) :
  Calls Tryz.prog 198 #[.slice (some ⟨blk,off,none⟩) d.size cap,.func (.func g) #[] cb] w fun e w' =>
   e=.returned (.tuple #[])∧∃ n os,w'=sortWorld enc w blk off n (d.toList.mergeSort fun x y => !(ltOf cf) y x).toArray os:=Any.slices_SortFunc_total Tryz.laysSlF6_f36 enc h1 cf hO g cb blk off cap d w eg hcmp hH hblk hsz hT

end Go.Proofs.YtekkofldhhdpgaaGreat

end

section

namespace Go.Proofs.YtekkofldhhdpgaaGreat
open Go.RowKit Go.Lib

theorem icmp (x y:Int) (w:World):Calls Tryz.prog 175 #[.int .i64 x,.int .i64 y] w fun e w' => e=.returned (.int .i64 (compareInt x y))∧w=w' :=
 (Tryz.cmp_Compare_int x y w).mono fun _ _ ⟨he,hw⟩ => ⟨he,hw.symm⟩

theorem scmp (a b:List UInt8) (w:World):Calls Tryz.prog 176 #[.string ⟨a.toArray⟩,.string ⟨b.toArray⟩] w fun e w' => e=.returned (.int .i64 (compareBytes a b))∧w=w' :=
 (Tryz.strings_Compare ⟨a.toArray⟩ ⟨b.toArray⟩ w).mono fun _ _ ⟨he,hw⟩ => ⟨by simpa using he,hw.symm⟩

def orI (x y:Int):Int:=if x=0 then y else x

theorem or_any (B:Nat) (x y:Int) (w:World) (k0:w.cell? ⟨B,0,none⟩=some (.int .i64 x)) (k1:w.cell? ⟨B,1,none⟩=some (.int .i64 y)) :
  Calls Tryz.prog 174 #[.slice (some ⟨B,0,none⟩) 2 2] w fun e w' => e=.returned (.int .i64 (orI x y))∧w=w':=by
 by_cases hx:x=0
 ·subst hx
  by_cases hy:y=0
  ·subst hy
   go_enter Tryz.func174,Tryz.ntmps174
   go_wp2_with fail
   refine wp_loop_rounds 3 ?_
   rw [rounds_succ]
   go_wp2_with fail
   rw [rounds_succ]
   go_wp2_with fail
   rw [rounds_succ]
   go_wp2_with fail
   go_ret
   exact⟨rfl,rfl⟩
  ·have t1:(y != 0)=true:=by simp [hy]
   clear hy
   go_enter Tryz.func174,Tryz.ntmps174
   go_wp2_with fail
   refine wp_loop_rounds 3 ?_
   rw [rounds_succ]
   go_wp2_with fail
   rw [rounds_succ]
   go_wp2_with fail
   go_ret
   exact⟨rfl,rfl⟩
 ·have t1:(x != 0)=true:=by simp [hx]
  have HX:Hid (orI x y=x):=if_neg hx
  clear hx
  go_enter Tryz.func174,Tryz.ntmps174
  go_wp2_with fail
  refine wp_loop_rounds 3 ?_
  rw [rounds_succ]
  go_wp2_with fail
  go_ret
  exact⟨by rw [HX.out]; rfl,rfl⟩

theorem idCmp_or (a b:List UInt8):idCmp a b=orI (compareInt a.length b.length) (compareBytes a b):=by
 unfold idCmp compareInt orI
 by_cases h1:a.length < b.length
 ·have:(a.length:Int) < b.length:=by omega
  simp [h1,this]
 ·by_cases h2:b.length < a.length
  ·have h1':¬ (a.length:Int) < b.length:=by omega
   have h2':(b.length:Int) < a.length:=by omega
   simp [h1,h2,h1',h2']
  ·have h1':¬ (a.length:Int) < b.length:=by omega
   have h2':¬ (b.length:Int) < a.length:=by omega
   simp [h1,h2,h1',h2']

theorem compare_any (a b:List UInt8) (w:World) :
  Calls Tryz.prog 152 #[.string ⟨a.toArray⟩,.string ⟨b.toArray⟩] w fun e w' => e=.returned (.int .i64 (idCmp a b))∧∃ o,w'=w.alloc o:=by
 have HI:=hZq (idCmp_or a b)
 have H1:=hZq (icmp a.length b.length)
 have H2:=hZq (scmp a b)
 obtain⟨x,hx⟩ : ∃ x,compareInt a.length b.length=x:=⟨_,rfl⟩
 obtain⟨y,hy⟩ : ∃ y,compareBytes a b=y:=⟨_,rfl⟩
 rw [hx] at H1 HI
 rw [hy] at H2 HI
 clear hx hy
 go_enter Tryz.func152,Tryz.ntmps152
 go_wp2_with fail
 refine (H1.out _).mono ?_
 rintro e w' ⟨rfl,rfl⟩
 go_wp2_with fail
 refine (H2.out _).mono ?_
 rintro e w' ⟨rfl,rfl⟩
 go_wp2_with fail
 refine (or_any _ x y _ (by simp) (by simp)).mono ?_
 rintro e w' ⟨rfl,rfl⟩
 go_wp2_with fail
 go_ret
 exact⟨by rw [HI.out]; rfl,_,rfl⟩

theorem compare_eq (a b:List UInt8) {n:Int} (h:Hid (idCmp a b=n)) (w:World) :
  Calls Tryz.prog 152 #[.string ⟨a.toArray⟩,.string ⟨b.toArray⟩] w fun e w' => e=.returned (.int .i64 n)∧Below w.heap.size w w':=by
 have h1:=h.out
 subst h1
 exact (compare_any a b w).mono fun _ _ ⟨he,o,hw⟩ => ⟨he,by rw [hw]; exact (Below.refl _ _).alloc (Nat.le_refl _) _⟩

theorem less_eq (a b:List UInt8) {r:Bool} (h:Hid (idLess a b=r)) (w:World) :
  Calls Tryz.prog 103 #[.string ⟨a.toArray⟩,.string ⟨b.toArray⟩] w fun e w' => e=.returned (.bool r)∧Below w.heap.size w w':=by
 obtain⟨n,hn⟩ : ∃ n,Hid (idCmp a b=n):=⟨_,rfl⟩
 have hr:Hid (decide (n < 0)=r):=by show _=_; rw [← hn.out]; exact h.out
 go_enter Tryz.func103,Tryz.ntmps103
 go_wp2_with fail
 refine (compare_eq a b hn _).mono ?_
 rintro e w1 ⟨rfl,hb1⟩
 have B1:=hZq hb1
 clear hb1
 go_wp2_with fail
 go_ret
 exact⟨by rw [← hr.out]; rfl,B1.out⟩

theorem rless_eq (a b:List UInt8) {r:Bool} (h:Hid (idLess a b=r)) (w:World) :
  Calls Tryz.prog 68 #[.string ⟨a.toArray⟩,.string ⟨b.toArray⟩] w fun e w' => e=.returned (.bool r)∧w=w':=by
 have hd:=idLess_doc a b
 rw [h.out] at hd
 have HD:=hZq hd
 clear hd h
 by_cases h1:a.length < b.length
 ·have hr:Hid (r=true):=by show _=_; rw [HD.out]; simp [h1]
  clear HD
  go_enter Tryz.func68,Tryz.ntmps68
  go_wp2_with fail
  go_ret
  exact⟨by rw [hr.out]; rfl,rfl⟩
 ·by_cases h2:a.length=b.length
  ·have hr:Hid (r=Op.bytesLess a b):=by show _=_; rw [HD.out]; simp [h2]
   have t1:((a.length:Int) == (b.length:Int))=true:=by rw [h2]; simp
   have t2:decide (a.length < b.length)=false:=by simp; omega
   clear HD h1 h2
   go_enter Tryz.func68,Tryz.ntmps68
   go_wp2_with fail
   go_ret
   exact⟨by rw [hr.out]; rfl,rfl⟩
  ·have hr:Hid (r=false):=by show _=_; rw [HD.out]; simp [h1,h2]
   have t1:((a.length:Int) == (b.length:Int))=false:=by simp; omega
   have t2:decide (a.length < b.length)=false:=by simp; omega
   clear HD h1 h2
   go_enter Tryz.func68,Tryz.ntmps68
   go_wp2_with fail
   go_ret
   exact⟨by rw [hr.out]; rfl,rfl⟩

end Go.Proofs.YtekkofldhhdpgaaGreat

end

section

namespace Go.Proofs.YtekkofldhhdpgaaGreat
open Go.RowKit

def runeLc (r:Int):Bool:=decide (97≤r) && decide (r≤122)
def runeIn (r:Int):Bool:=(decide (48≤r) && decide (r≤57)) || decide (r=45)

theorem letter_eq (r:Int) {b:Bool} (h:Hid (runeLc r=b)) (w:World) :
  Calls Tryz.prog 149 #[.int .i32 r] w fun e w' => e=.returned (.bool b)∧w=w':=by
 have h':=h.out
 unfold runeLc at h'
 clear h
 by_cases h1:97≤r
 ·by_cases h2:r≤122
  ·obtain rfl:b=true:=by rw [← h']; simp [h1,h2]
   clear h'
   go_enter Tryz.func149,Tryz.ntmps149
   go_wp2_with fail
   go_ret
   exact⟨by first | rfl | simp_all,rfl⟩
  ·obtain rfl:b=false:=by rw [← h']; simp [h2]
   have h3:122 < r:=by omega
   clear h' h2
   go_enter Tryz.func149,Tryz.ntmps149
   go_wp2_with fail
   go_ret
   exact⟨by first | rfl | simp_all,rfl⟩
 ·obtain rfl:b=false:=by rw [← h']; simp [h1]
  have h3:r < 97:=by omega
  clear h' h1
  go_enter Tryz.func149,Tryz.ntmps149
  go_wp2_with fail
  go_ret
  exact⟨by first | rfl | simp_all,rfl⟩

theorem inner_eq (r:Int) {b:Bool} (h:Hid (runeIn r=b)) (w:World) :
  Calls Tryz.prog 150 #[.int .i32 r] w fun e w' => e=.returned (.bool b)∧w=w':=by
 have h':=h.out
 unfold runeIn at h'
 clear h
 by_cases h0:r=45
 ·subst h0
  obtain rfl:b=true:=by rw [← h']; decide
  clear h'
  go_enter Tryz.func150,Tryz.ntmps150
  go_wp2_with fail
  go_ret
  exact⟨rfl,rfl⟩
 ·have t0:(r == 45)=false:=by simpa using h0
  by_cases h1:48≤r
  ·by_cases h2:r≤57
   ·obtain rfl:b=true:=by rw [← h']; simp [h1,h2]
    clear h' h0
    go_enter Tryz.func150,Tryz.ntmps150
    go_wp2_with fail
    go_ret
    exact⟨rfl,rfl⟩
   ·obtain rfl:b=false:=by rw [← h']; simp [h2,h0]
    have h3:decide (r≤57)=false:=by simp; omega
    clear h' h2 h0
    go_enter Tryz.func150,Tryz.ntmps150
    go_wp2_with fail
    go_ret
    exact⟨rfl,rfl⟩
  ·obtain rfl:b=false:=by rw [← h']; simp [h1,h0]
   have h3:r < 48:=by omega
   clear h' h1 h0
   go_enter Tryz.func150,Tryz.ntmps150
   go_wp2_with fail
   go_ret
   exact⟨rfl,rfl⟩

theorem runeLc_byte (b:UInt8):runeLc (b.toNat:Int)=lcOk b:=by
 unfold runeLc lcOk
 rw [Bool.eq_iff_iff]
 simp
 omega

theorem runeIn_byte (b:UInt8):runeIn (b.toNat:Int)=dgOk b:=by
 unfold runeIn dgOk
 rw [Bool.eq_iff_iff]
 simp
 omega

theorem rune_high {r:Nat} (h:128≤r):runeLc (r:Int)=false∧runeIn (r:Int)=false:=by
 unfold runeLc runeIn
 constructor
 ·rw [Bool.eq_false_iff]; simp; omega
 ·rw [Bool.eq_false_iff]; simp; omega

theorem all_succ {l:List UInt8} {k:Nat} {b:UInt8} (hb:l[k]?=some b) (p:UInt8→Bool):(l.take (k+1)).all p=((l.take k).all p && p b):=by
 obtain⟨h1,h2⟩:=List.getElem?_eq_some_iff.1 hb
 rw [List.take_succ_eq_append_getElem h1,h2,List.all_append]
 simp

theorem idIs_bad {l:List UInt8} {k:Nat} {b:UInt8} (hb:l[k]?=some b) (h:inOk b=false):idIs l=false:=by
 rw [Bool.eq_false_iff]
 intro h'
 have:=List.all_eq_true.1 (idIs_parts h').2.2.2 b (List.mem_of_getElem? hb)
 rw [h] at this
 cases this

theorem idIs_first {l:List UInt8} {b:UInt8} (hb:l[0]?=some b) (h:lcOk b=false):idIs l=false:=by
 rw [Bool.eq_false_iff]
 intro h'
 have:=(idIs_parts h').2.2.1
 rw [List.getD,hb] at this
 simp [h] at this

theorem is_any (l:List UInt8) (hl:l.length≤4294967296) (w:World) :
  Calls Tryz.prog 101 #[.string ⟨l.toArray⟩] w fun e w' => e=.returned (.bool (idIs l))∧Below w.heap.size w w':=by
 by_cases h0:l=[]
 ·subst h0
  go_enter Tryz.func101,Tryz.ntmps101
  go_wp2_with fail
  go_ret
  exact⟨rfl,Below.refl _ _⟩
 ·have t0:(l == [])=false:=by simpa using h0
  have hpos:1≤l.length:=by
   rcases l with _ | ⟨_,_⟩
   ·exact absurd rfl h0
   ·simp
  by_cases h16:16 < l.length
  ·have HR:=hZq (idIs_long h16)
   have H0:=hZq h0
   clear h0
   go_enter Tryz.func101,Tryz.ntmps101
   go_wp2_with fail
   go_ret
   exact⟨by rw [HR.out]; rfl,Below.refl _ _⟩
  ·have H0:=hZq h0
   clear h0
   go_enter Tryz.func101,Tryz.ntmps101
   go_wp2_with fail
   go_loopw [] (fun wr => ∃ pos:Nat,pos≤l.length∧Hid (wr.heap[w.heap.size]?=some (.stringIter ⟨l.toArray⟩ pos))∧Below w.heap.size w wr∧Hid (pos=0∨lcOk (l.getD 0 0)=true)∧Hid ((l.take pos).all inOk=true)) (fun wr => l.length - wr.iterPos w.heap.size)
   case atStart => exact⟨0,by omega,World.iter_heap w _ 0,(Below.refl _ w).alloc (Nat.le_refl _) _,.inl rfl,by show _=_; simp⟩
   case round =>
    obtain⟨pos,hp,HI,hnx,HF,HA⟩:=hrel
    have HN:=hZq hnx
    have hpi:Hid (wr.iterPos w.heap.size=pos):=by show _=_; simp only [World.iterPos,HI.out]
    by_cases hlt:pos < l.length
    ·have hlt':pos < (⟨l.toArray⟩ : ByteArray).size:=by rw [size_bytes]; exact hlt
     obtain⟨b,hb⟩ : ∃ b:UInt8,(⟨l.toArray⟩ : ByteArray)[pos]'hlt'=b:=⟨_,rfl⟩
     have HB:Hid (l[pos]?=some b):=by rw [← hb]; exact bytes_at l pos hlt'
     have hb256:=b.toNat_lt
     by_cases h128:b.toNat < 128
     ·have hnext:=fun ty => Lib.run_next_ascii_at (P:=Tryz.prog) wr w.heap.size ⟨l.toArray⟩ pos ty HI.out hlt' (by rw [hb]; exact h128)
      rw [hb] at hnext
      have HI2:=hZq (Lib.iterAt_heap wr w.heap.size ⟨l.toArray⟩ pos (pos+1) HI.out)
      have HN2:=hZq (Lib.below_iterAt hnx (k:=w.heap.size) (Nat.le_refl _) ⟨l.toArray⟩ (pos+1))
      have hp2:Hid ((wr.iterAt w.heap.size ⟨l.toArray⟩ (pos+1)).iterPos w.heap.size=pos+1):=by show _=_; simp only [World.iterPos,HI2.out]
      clear hb hnx
      cases hl:lcOk b with
      | true =>
       have HL:Hid (runeLc (b.toNat:Int)=true):=by show _=_; rw [runeLc_byte]; exact hl
       have HA2:Hid ((l.take (pos+1)).all inOk=true):=by show _=_; rw [all_succ HB.out,HA.out]; simp [inOk,hl]
       have HF2:Hid (pos+1=0∨lcOk (l.getD 0 0)=true):=by
        show _∨_
        right
        rcases HF.out with h | h
        ·subst h; rw [List.getD,HB.out]; exact hl
        ·exact h
       clear hl
       go_wp2_with fail
       refine (letter_eq _ HL _).mono ?_
       rintro e w' ⟨rfl,rfl⟩
       go_wp2_with fail
       go_roundw
       case rel => exact⟨pos+1,by omega,HI2,HN2.out,HF2,HA2⟩
       case measure => rw [hp2.out,hpi.out]; omega
      | false =>
       have HL:Hid (runeLc (b.toNat:Int)=false):=by show _=_; rw [runeLc_byte]; exact hl
       by_cases hz:pos=0
       ·have HR:Hid (idIs l=false):=by show _=_; subst hz; exact idIs_first HB.out hl
        subst hz
        clear hl
        go_wp2_with fail
        refine (letter_eq _ HL _).mono ?_
        rintro e w' ⟨rfl,rfl⟩
        go_wp2_with fail
        go_ret
        exact⟨by rw [HR.out]; rfl,HN2.out⟩
       ·have hz':0 < pos:=by omega
        clear hz
        cases hd:dgOk b with
        | true =>
         have HD:Hid (runeIn (b.toNat:Int)=true):=by show _=_; rw [runeIn_byte]; exact hd
         have HA2:Hid ((l.take (pos+1)).all inOk=true):=by show _=_; rw [all_succ HB.out,HA.out]; simp [inOk,hd]
         have HF2:Hid (pos+1=0∨lcOk (l.getD 0 0)=true):=by
          show _∨_
          right
          rcases HF.out with h | h
          ·omega
          ·exact h
         clear hl hd
         go_wp2_with fail
         refine (letter_eq _ HL _).mono ?_
         rintro e w' ⟨rfl,rfl⟩
         go_wp2_with fail
         refine (inner_eq _ HD _).mono ?_
         rintro e w' ⟨rfl,rfl⟩
         go_wp2_with fail
         go_roundw
         case rel => exact⟨pos+1,by omega,HI2,HN2.out,HF2,HA2⟩
         case measure => rw [hp2.out,hpi.out]; omega
        | false =>
         have HD:Hid (runeIn (b.toNat:Int)=false):=by show _=_; rw [runeIn_byte]; exact hd
         have HR:Hid (idIs l=false):=by show _=_; exact idIs_bad HB.out (by simp [inOk,hl,hd])
         clear hl hd
         go_wp2_with fail
         refine (letter_eq _ HL _).mono ?_
         rintro e w' ⟨rfl,rfl⟩
         go_wp2_with fail
         refine (inner_eq _ HD _).mono ?_
         rintro e w' ⟨rfl,rfl⟩
         go_wp2_with fail
         go_ret
         exact⟨by rw [HR.out]; rfl,HN2.out⟩
     ·obtain⟨hh1,_⟩:=decode_high ⟨l.toArray⟩ pos hlt' (by rw [hb]; omega)
      have hnext:=fun ty => Lib.run_next_any_at (P:=Tryz.prog) wr w.heap.size ⟨l.toArray⟩ pos ty HI.out hlt'
      have HN2:=hZq (Lib.below_iterAt hnx (k:=w.heap.size) (Nat.le_refl _) ⟨l.toArray⟩ (pos+(Utf8.decode ⟨l.toArray⟩ pos).2))
      have HR:Hid (idIs l=false):=by show _=_; exact idIs_high (List.mem_of_getElem? HB.out) (by omega)
      obtain⟨r,hr⟩ : ∃ r,(Utf8.decode ⟨l.toArray⟩ pos).1=r:=⟨_,rfl⟩
      obtain⟨q,hq⟩ : ∃ q,pos+(Utf8.decode ⟨l.toArray⟩ pos).2=q:=⟨_,rfl⟩
      rw [hr,hq] at hnext
      rw [hq] at HN2
      rw [hr] at hh1
      have HL:=hZq (rune_high hh1).1
      have HD:=hZq (rune_high hh1).2
      clear hr hq hb hnx
      go_wp2_with fail
      refine (letter_eq _ HL _).mono ?_
      rintro e w' ⟨rfl,rfl⟩
      by_cases hz:pos=0
      ·subst hz
       go_wp2_with fail
       go_ret
       exact⟨by rw [HR.out]; rfl,HN2.out⟩
      ·have hz':0 < pos:=by omega
       clear hz
       go_wp2_with fail
       refine (inner_eq _ HD _).mono ?_
       rintro e w' ⟨rfl,rfl⟩
       go_wp2_with fail
       go_ret
       exact⟨by rw [HR.out]; rfl,HN2.out⟩
    ·obtain rfl:pos=l.length:=by omega
     have hnext:=fun ty => Lib.run_next_end_at (P:=Tryz.prog) wr w.heap.size ⟨l.toArray⟩ l.length ty HI.out (by rw [size_bytes]; omega)
     have HR:Hid (idIs l=true):=by
      show _=_
      have ha:=HA.out
      rw [List.take_length] at ha
      refine idIs_mk hpos (by omega) ?_ ha
      rcases HF.out with h | h
      ·omega
      ·exact h
     clear hnx
     go_wp2_with fail
     go_ret
     exact⟨by rw [HR.out]; rfl,HN.out⟩

end Go.Proofs.YtekkofldhhdpgaaGreat

end

section

namespace Go.Proofs.YtekkofldhhdpgaaGreat
open Go.RowKit Go.Lib

def smallR (r:Int):Int:=if 65≤r∧r≤90 then r+32 else r

def FoldAt (l:List UInt8) (pos:Nat) (acc:List UInt8):Prop :=
 (pos≤l.length∧acc=idLow (l.take pos))∨((∃ b ∈ acc,128≤b.toNat)∧∃ b ∈ l,128≤b.toNat)

theorem ownsRowF_later {w w':World} {base e size:Nat} {v:Value} {n:Nat} {xs:List Value} (h:w.ownsRowF base e size v n xs) (hb:Below w.heap.size w w'):w'.ownsRowF base e size v n xs:=by
 refine ⟨h.1,?_⟩
 rcases h.2 with h' | ⟨g,cap,cur,fz,h1,h2,h3,h4⟩
 ·exact .inl h'
 ·exact .inr ⟨g,cap,cur,fz,h1,h2,by rw [hb.block g (Array.getElem?_eq_some_iff.1 h3).1]; exact h3,h4⟩

theorem builderAt_later {T e B b:Nat} {p:Value} {bs:List Value} {w w':World} (h:BuilderAtF T e B b p bs w) (hb:Below w.heap.size w w'):BuilderAtF T e B b p bs w':=by
 obtain⟨h1,v,h2,h3,h4⟩:=h
 exact⟨h1,v,by rw [hb.block b (Array.getElem?_eq_some_iff.1 h2).1]; exact h2,ownsRowF_later h3 hb,h4⟩

theorem builder_later {T e B b:Nat} {bs:List Value} {w w':World} (h:IsBuilderF T e B b bs w) (hb:Below w.heap.size w w'):IsBuilderF T e B b bs w' :=
 h.elim (fun x => .inl (builderAt_later x hb)) (fun x => .inr (builderAt_later x hb))

theorem is_eq (l:List UInt8) (hl:l.length≤4294967296) {r:Bool} (h:Hid (idIs l=r)) (w:World) :
  Calls Tryz.prog 101 #[.string ⟨l.toArray⟩] w fun e w' => e=.returned (.bool r)∧Below w.heap.size w w':=by
 have:=is_any l hl w
 rwa [h.out] at this

end Go.Proofs.YtekkofldhhdpgaaGreat

end

section

namespace Go.Proofs.YtekkofldhhdpgaaGreat
open Go.RowKit

theorem vtake_short {l:List UInt8} {p m:Int} {t:List UInt8} {f er:Nat} (h:vtake l p m=(t,f,er)):t.length≤l.length:=by
 unfold vtake at h
 generalize vget l p=g at h
 obtain⟨n,g,e⟩:=g
 dsimp only at h
 repeat' split at h
 all_goals
  simp only [Prod.mk.injEq] at h
  obtain⟨rfl,_,_⟩:=h
  simp
 try omega

theorem idput_eq (l:List UInt8) (hl:l.length≤4294967296) {t:List UInt8} {r:Bool} (h:Hid (idPut l=(t,r))) (w:World) :
  Calls Tryz.prog 168 #[.string ⟨l.toArray⟩] w fun e w' => e=.returned (.tuple #[.string ⟨t.toArray⟩,.bool r])∧Below w.heap.size w w':=by
 have e:=h.out
 unfold idPut at e
 clear h
 cases hi:idIs l with
 | false =>
  rw [hi] at e
  simp only [Bool.false_eq_true,if_false,Prod.mk.injEq] at e
  obtain⟨rfl,rfl⟩:=e
  have HI:=hZq hi
  clear hi
  go_enter Tryz.func168,Tryz.ntmps168
  go_wp2_with fail
  refine (is_eq l hl HI _).mono ?_
  rintro e w1 ⟨rfl,hb1⟩
  go_wp2_with fail
  go_ret2
  exact⟨rfl,hb1⟩
 | true =>
  rw [hi] at e
  simp only [if_true,Prod.mk.injEq] at e
  obtain⟨rfl,rfl⟩:=e
  have HI:=hZq hi
  clear hi
  go_enter Tryz.func168,Tryz.ntmps168
  go_wp2_with fail
  refine (is_eq l hl HI _).mono ?_
  rintro e w1 ⟨rfl,hb1⟩
  go_wp2_with fail
  refine (text_any l hl _).mono ?_
  rintro e w2 ⟨rfl,hb2⟩
  go_wp2_with fail
  go_ret2
  exact⟨rfl,below2' hb1 hb2⟩

theorem take_eq16 (l:List UInt8) (hl:l.length≤4294967296) (p:Int) (w:World) {t:List UInt8} {f er:Nat} (h:Hid (vtake l p 16=(t,f,er))) :
  Calls Tryz.prog 188 #[.string ⟨l.toArray⟩,.int .i64 p,.int .i64 16] w fun e w' => e=.returned (.tuple #[.string ⟨t.toArray⟩,.int .i64 f,.int .i64 er])∧w=w':=take_eq l hl p 16 (by decide) w h

theorem idtake_eq (l:List UInt8) (hl:l.length≤4294967296) (p:Int) {t:List UInt8} {f er:Nat} (h:Hid (idTake l p=(t,f,er))) (w:World) :
  Calls Tryz.prog 170 #[.string ⟨l.toArray⟩,.int .i64 p] w fun e w' => e=.returned (.tuple #[.string ⟨t.toArray⟩,.int .i64 f,.int .i64 er])∧Below w.heap.size w w':=by
 obtain⟨u,g,ue,hu⟩ : ∃ u g ue,vtake l p 16=(u,g,ue):=⟨_,_,_,rfl⟩
 have e:=h.out
 unfold idTake at e
 rw [hu] at e
 dsimp only at e
 have hs:=vtake_short hu
 have HU:=hZq hu
 clear h hu
 by_cases he:ue=0
 ·subst he
  rw [if_neg (by simp)] at e
  cases hi:idIs u with
  | false =>
   rw [hi] at e
   simp only [Bool.false_eq_true,if_false,Prod.mk.injEq] at e
   obtain⟨rfl,rfl,rfl⟩:=e
   have HI:=hZq hi
   clear hi
   go_enter Tryz.func170,Tryz.ntmps170
   go_wp2_with fail
   refine (take_eq16 l hl p _ HU).mono ?_
   rintro e w1 ⟨rfl,rfl⟩
   go_wp2_with fail
   refine (is_eq u (by omega) HI _).mono ?_
   rintro e w1 ⟨rfl,hb1⟩
   go_wp2_with fail
   go_ret3
   exact⟨rfl,hb1⟩
  | true =>
   rw [hi] at e
   simp only [if_true,Prod.mk.injEq] at e
   obtain⟨rfl,rfl,rfl⟩:=e
   have HI:=hZq hi
   clear hi
   go_enter Tryz.func170,Tryz.ntmps170
   go_wp2_with fail
   refine (take_eq16 l hl p _ HU).mono ?_
   rintro e w1 ⟨rfl,rfl⟩
   go_wp2_with fail
   refine (is_eq u (by omega) HI _).mono ?_
   rintro e w1 ⟨rfl,hb1⟩
   go_wp2_with fail
   go_ret3
   exact⟨rfl,hb1⟩
 ·rw [if_pos he] at e
  simp only [Prod.mk.injEq] at e
  obtain⟨rfl,rfl,rfl⟩:=e
  have t1:((ue:Int) != 0)=true:=by simp; omega
  clear he
  go_enter Tryz.func170,Tryz.ntmps170
  go_wp2_with fail
  refine (take_eq16 l hl p _ HU).mono ?_
  rintro e w1 ⟨rfl,rfl⟩
  go_wp2_with fail
  go_ret3
  exact⟨rfl,Below.refl _ _⟩

end Go.Proofs.YtekkofldhhdpgaaGreat

end

section

namespace Go.Proofs.YtekkofldhhdpgaaGreat
open Go.RowKit

end Go.Proofs.YtekkofldhhdpgaaGreat

end
