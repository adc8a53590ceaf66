/-
 TEXTS OF THE PROOF, one behind the other: ValMay, SesKey.
-/
import Derived.Test.YtphfinlfabklmaaGreatB01
import Derived.Test.YtphfinlfabklmaaGreatB12
import Derived.Test.YtphfinlfabklmaaGreatB02

set_option maxHeartbeats 12800000
set_option maxRecDepth 100000

section

namespace Go.Proofs.YtphfinlfabklmaaGreat
open Go.RowKit

theorem chOk_lo {b:UInt8} (h:b.toNat < 32):chOk b=false:=by unfold chOk; simp; omega
theorem chOk_hi {b:UInt8} (h:126 < b.toNat):chOk b=false:=by unfold chOk; simp; omega
theorem chOk_yes {b:UInt8} (h:¬ b.toNat < 32) (h':¬ 126 < b.toNat):chOk b=true:=by unfold chOk; simp; omega

theorem all_take_succ {l:List UInt8} {k:Nat} {b:UInt8} (hb:l[k]?=some b) (p:UInt8→Bool):(l.take (k+1)).all p=((l.take k).all p && p b):=by
 obtain⟨h1,h2⟩:=List.getElem?_eq_some_iff.1 hb
 rw [List.take_succ_eq_append_getElem h1,h2,List.all_append]
 simp

theorem all_no {l:List UInt8} {k:Nat} {b:UInt8} (hb:l[k]?=some b) {p:UInt8→Bool} (h:p b=false):l.all p=false:=by
 obtain⟨h1,h2⟩:=List.getElem?_eq_some_iff.1 hb
 rw [Bool.eq_false_iff]
 intro h'
 have:=List.all_eq_true.1 h' l[k] (List.getElem_mem h1)
 rw [h2,h] at this
 cases this

theorem stat_any (l:List UInt8) (hl:l.length≤4294967296) (w:World) :
  Calls Tryz.prog 142 #[.string ⟨l.toArray⟩] w fun e w' => e=.returned (.bool (stOk l))∧w=w':=by
 by_cases h:32 < l.length
 ·have HR:Hid (stOk l=false):=by show _=_; unfold stOk; simp; omega
  go_enter Tryz.func142,Tryz.ntmps142
  go_wp2_with fail
  go_ret
  exact⟨by rw [HR.out]; rfl,rfl⟩
 ·have h32:decide (l.length≤32)=true:=by simp; omega
  have H32:=hD h32
  clear h32
  go_enter Tryz.func142,Tryz.ntmps142
  go_wp2_with fail
  go_loop [9] (fun i => ∃ k:Nat,k≤l.length∧i=.int .i64 k∧Hid ((l.take k).all chOk=true)) (fun i => l.length - (intOf i).toNat)
  case atStart => exact⟨0,by omega,rfl,by show _=_; simp⟩
  case round =>
   obtain⟨k,hk,rfl,HA⟩:=hrel
   by_cases hlt:k < l.length
   ·have hlt':k < (⟨l.toArray⟩ : ByteArray).size:=by rw [size_bytes]; exact hlt
    obtain⟨b,hb⟩ : ∃ b:UInt8,(⟨l.toArray⟩ : ByteArray)[k]'hlt'=b:=⟨_,rfl⟩
    have HB:Hid (l[k]?=some b):=by rw [← hb]; exact bytes_at l k hlt'
    have h256:=b.toNat_lt
    by_cases h1:b.toNat < 32
    ·have HN:Hid (stOk l=false):=by show _=_; unfold stOk; rw [all_no HB.out (chOk_lo h1)]; simp
     go_wp2_with fail
     go_ret
     exact⟨by rw [HN.out]; rfl,rfl⟩
    ·by_cases h2:126 < b.toNat
     ·have HN:Hid (stOk l=false):=by show _=_; unfold stOk; rw [all_no HB.out (chOk_hi h2)]; simp
      go_wp2_with fail
      go_ret
      exact⟨by rw [HN.out]; rfl,rfl⟩
     ·have HN:Hid ((l.take (k+1)).all chOk=true):=by show _=_; rw [all_take_succ HB.out,HA.out,chOk_yes h1 h2]; rfl
      go_wp2_with fail
      go_round
      case rel => exact⟨k+1,by omega,by go_num,HN⟩
      case measure => simp [intOf]; omega
   ·obtain rfl:k=l.length:=by omega
    have HR:Hid (stOk l=true):=by
     show _=_
     have:=HA.out
     rw [List.take_length] at this
     unfold stOk
     rw [this,H32.out]
     rfl
    go_wp2_with fail
    go_ret
    exact⟨by rw [HR.out]; rfl,rfl⟩

def numsV (a b c:Int) (l:List UInt8):Value:=.agg #[.int .i64 a,.int .i64 b,.int .i64 c,.string ⟨l.toArray⟩]

theorem numsOk_cases (a b c:Int):(numsOk a b c=true∧1≤a∧a≤4∧-128≤b∧b≤127∧0≤c∧c≤1099511627776) ∨
  (numsOk a b c=false∧(a < 1∨(1≤a∧4 < a)∨(1≤a∧a≤4∧b < -128)∨(1≤a∧a≤4∧-128≤b∧127 < b)∨(1≤a∧a≤4∧-128≤b∧b≤127∧c < 0)∨(1≤a∧a≤4∧-128≤b∧b≤127∧0≤c∧1099511627776 < c))):=by
 unfold numsOk
 by_cases h:1≤a∧a≤4∧-128≤b∧b≤127∧0≤c∧c≤1099511627776
 ·exact .inl ⟨by simpa using h,h⟩
 ·exact .inr ⟨by simpa using h,by omega⟩

theorem may_any (a b c:Int) (l:List UInt8) (hl:l.length≤4294967296) (w:World) :
  Calls Tryz.prog 78 #[.agg #[.int .i64 a,.int .i64 b,.int .i64 c,.string ⟨l.toArray⟩]] w fun e w' => e=.returned (.bool (vaMay ⟨a,b,c,l⟩))∧Below w.heap.size w w':=by
 rcases numsOk_cases a b c with ⟨h,h1,h2,h3,h4,h5,h6⟩ | ⟨h,hor⟩
 ·have HR:Hid (vaMay ⟨a,b,c,l⟩=stOk l):=by show _=_; unfold vaMay; simp only; rw [h]; rfl
  clear h
  go_enter Tryz.func78,Tryz.ntmps78
  go_wp2_with fail
  refine (stat_any l hl _).mono ?_
  rintro e w' ⟨rfl,rfl⟩
  go_wp2_with fail
  go_ret
  exact⟨by rw [HR.out]; rfl,(Below.refl _ _).alloc (Nat.le_refl _) _⟩
 ·have HR:Hid (vaMay ⟨a,b,c,l⟩=false):=by show _=_; unfold vaMay; simp only; rw [h]; rfl
  clear h
  rcases hor with h1 | ⟨h1,h2⟩ | ⟨h1,h2,h3⟩ | ⟨h1,h2,h3,h4⟩ | ⟨h1,h2,h3,h4,h5⟩ | ⟨h1,h2,h3,h4,h5,h6⟩
  all_goals
   go_enter Tryz.func78,Tryz.ntmps78
   go_wp2_with fail
   go_ret
   exact⟨by rw [HR.out]; rfl,(Below.refl _ _).alloc (Nat.le_refl _) _⟩

theorem rmay_any (a b c:Int) (l:List UInt8) (hl:l.length≤4294967296) (w:World) :
  Calls Tryz.prog 108 #[.agg #[.int .i64 a,.int .i64 b,.int .i64 c,.string ⟨l.toArray⟩]] w fun e w' => e=.returned (.bool (vaMay ⟨a,b,c,l⟩))∧Below w.heap.size w w':=by
 rcases numsOk_cases a b c with ⟨h,h1,h2,h3,h4,h5,h6⟩ | ⟨h,hor⟩
 ·have HM:Hid (vaMay ⟨a,b,c,l⟩=stOk l):=by show _=_; unfold vaMay; simp only; rw [h]; rfl
  clear h
  by_cases h:32 < l.length
  ·have HR:Hid (vaMay ⟨a,b,c,l⟩=false):=by show _=_; rw [HM.out]; unfold stOk; simp; omega
   clear HM
   go_enter Tryz.func108,Tryz.ntmps108
   go_wp2_with fail
   go_ret
   exact⟨by rw [HR.out]; rfl,(Below.refl _ _).alloc (Nat.le_refl _) _⟩
  ·have h32:decide (l.length≤32)=true:=by simp; omega
   have H32:=hD h32
   clear h32
   go_enter Tryz.func108,Tryz.ntmps108
   go_wp2_with fail
   go_loop [3] (fun i => ∃ k:Nat,k≤l.length∧i=.int .i64 k∧Hid ((l.take k).all chOk=true)) (fun i => l.length - (intOf i).toNat)
   case atStart => exact⟨0,by omega,rfl,by show _=_; simp⟩
   case round =>
    obtain⟨k,hk,rfl,HA⟩:=hrel
    by_cases hlt:k < l.length
    ·have hlt':k < (⟨l.toArray⟩ : ByteArray).size:=by rw [size_bytes]; exact hlt
     obtain⟨b,hb⟩ : ∃ b:UInt8,(⟨l.toArray⟩ : ByteArray)[k]'hlt'=b:=⟨_,rfl⟩
     have HB:Hid (l[k]?=some b):=by rw [← hb]; exact bytes_at l k hlt'
     have h256:=b.toNat_lt
     by_cases h1:b.toNat < 32
     ·have HN:Hid (stOk l=false):=by show _=_; unfold stOk; rw [all_no HB.out (chOk_lo h1)]; simp
      go_wp2_with fail
      go_ret
      exact⟨by rw [HM.out,HN.out]; rfl,(Below.refl _ _).alloc (Nat.le_refl _) _⟩
     ·by_cases h2:126 < b.toNat
      ·have HN:Hid (stOk l=false):=by show _=_; unfold stOk; rw [all_no HB.out (chOk_hi h2)]; simp
       go_wp2_with fail
       go_ret
       exact⟨by rw [HM.out,HN.out]; rfl,(Below.refl _ _).alloc (Nat.le_refl _) _⟩
      ·have HN:Hid ((l.take (k+1)).all chOk=true):=by show _=_; rw [all_take_succ HB.out,HA.out,chOk_yes h1 h2]; rfl
       go_wp2_with fail
       go_round
       case rel => exact⟨k+1,by omega,by go_num,HN⟩
       case measure => simp [intOf]; omega
    ·obtain rfl:k=l.length:=by omega
     have HR:Hid (stOk l=true):=by
      show _=_
      have:=HA.out
      rw [List.take_length] at this
      unfold stOk
      rw [this,H32.out]
      rfl
     go_wp2_with fail
     go_ret
     exact⟨by rw [HM.out,HR.out]; rfl,(Below.refl _ _).alloc (Nat.le_refl _) _⟩
 ·have HR:Hid (vaMay ⟨a,b,c,l⟩=false):=by show _=_; unfold vaMay; simp only; rw [h]; rfl
  clear h
  rcases hor with h1 | ⟨h1,h2⟩ | ⟨h1,h2,h3⟩ | ⟨h1,h2,h3,h4⟩ | ⟨h1,h2,h3,h4,h5⟩ | ⟨h1,h2,h3,h4,h5,h6⟩
  all_goals
   go_enter Tryz.func108,Tryz.ntmps108
   go_wp2_with fail
   go_ret
   exact⟨by rw [HR.out]; rfl,(Below.refl _ _).alloc (Nat.le_refl _) _⟩

end Go.Proofs.YtphfinlfabklmaaGreat

end

section

namespace Go.Proofs.YtphfinlfabklmaaGreat
open Go.RowKit

theorem keyOf_any (u st:List UInt8) (id a b c:Int) (w:World) :
  Calls Tryz.prog 152 #[.agg #[.string ⟨u.toArray⟩,.int .i64 id,.int .i64 a,.int .i64 b,.int .i64 c,.string ⟨st.toArray⟩]] w fun e w' => e=.returned (.agg #[.string ⟨u.toArray⟩,.int .i64 id])∧Below w.heap.size w w':=by
 go_enter Tryz.func152,Tryz.ntmps152
 go_wp2_with fail
 refine bodyPost_ret (v:=.agg #[.string ⟨u.toArray⟩,.int .i64 id]) (by simp [results,Tryz.results152,go_sem]) rfl ⟨rfl,?_⟩
 repeat (first | exact Below.refl _ _ | refine Below.setCell ?_ (by first | (simp; done) | (simp; omega)) _ | refine Below.alloc ?_ (by first | (simp; done) | (simp; omega)) _)

theorem isAhead_any (u u':List UInt8) (i i':Int) {r:Bool} (h:Hid (seLt ⟨u,i,Val.zero⟩ ⟨u',i',Val.zero⟩=r)) (w:World) :
  Calls Tryz.prog 184 #[.agg #[.string ⟨u.toArray⟩,.int .i64 i],.agg #[.string ⟨u'.toArray⟩,.int .i64 i']] w fun e w' => e=.returned (.bool r)∧Below w.heap.size w w':=by
 have B0:Hid (Below w.heap.size w ((w.alloc (.cells #[.string ⟨u.toArray⟩,.int .i64 i] 176)).alloc (.cells #[.string ⟨u'.toArray⟩,.int .i64 i'] 176))):=hD (((Below.refl _ _).alloc (Nat.le_refl _) _).alloc (by simp) _)
 by_cases hu:u=u'
 ·subst hu
  have hr:decide (i < i')=r:=by
   rw [← h.out]
   unfold seLt
   simp [idLess_irrefl]
  clear h
  go_enter Tryz.func184,Tryz.ntmps184
  go_wp2_with fail
  go_ret
  exact⟨rfl,B0.out⟩
 ·have t1:(u != u')=true:=by rw [bne_iff_ne]; exact hu
  have t2:(u == u')=false:=by rw [beq_eq_false_iff_ne]; exact hu
  have HL:Hid (idLess u u'=r):=by
   show _=_
   rw [← h.out]
   unfold seLt
   simp [hu]
  clear h hu
  go_enter Tryz.func184,Tryz.ntmps184
  go_wp2_with fail
  refine (less_eq u u' HL _).mono ?_
  rintro e w1 ⟨rfl,b⟩
  have B1:=hD (below2Z B0.out b)
  clear b
  go_wp2_with fail
  go_ret
  exact⟨rfl,B1.out⟩

theorem seOne_cases (u st:List UInt8) (id a b c:Int) :
  (idIs u=false∧seOne ⟨u,id,⟨a,b,c,st⟩⟩=false)∨(idIs u=true∧id < 0∧seOne ⟨u,id,⟨a,b,c,st⟩⟩=false)∨(idIs u=true∧0≤id∧4≤id∧seOne ⟨u,id,⟨a,b,c,st⟩⟩=false) ∨
  (idIs u=true∧0≤id∧id < 4∧seOne ⟨u,id,⟨a,b,c,st⟩⟩=vaMay ⟨a,b,c,st⟩):=by
 unfold seOne
 cases hu:idIs u with
 | false => exact .inl ⟨rfl,by simp⟩
 | true =>
  by_cases h0:0≤id
  ·by_cases h4:id < 4
   ·exact .inr (.inr (.inr ⟨rfl,h0,h4,by simp [h0,h4]⟩))
   ·exact .inr (.inr (.inl ⟨rfl,h0,by omega,by simp [h4]⟩))
  ·exact .inr (.inl ⟨rfl,by omega,by simp [h0]⟩)

theorem mayBe_any (u st:List UInt8) (id a b c:Int) (hu:u.length≤4294967296) (hst:st.length≤4294967296) {r:Bool} (h:Hid (seOne ⟨u,id,⟨a,b,c,st⟩⟩=r)) (w:World) :
  Calls Tryz.prog 150 #[.agg #[.string ⟨u.toArray⟩,.int .i64 id,.int .i64 a,.int .i64 b,.int .i64 c,.string ⟨st.toArray⟩]] w fun e w' => e=.returned (.bool r)∧Below w.heap.size w w':=by
 have B0:=hD (bl_newZ w (.cells #[.string ⟨u.toArray⟩,.int .i64 id,.int .i64 a,.int .i64 b,.int .i64 c,.string ⟨st.toArray⟩] 122))
 have HC:=hD (cellsAt_made (w:=w) (cs:=#[.string ⟨u.toArray⟩,.int .i64 id,.int .i64 a,.int .i64 b,.int .i64 c,.string ⟨st.toArray⟩]) (vs:=sesVals ⟨u,id,⟨a,b,c,st⟩⟩) rfl 122 rfl)
 rcases seOne_cases u st id a b c with ⟨h1,h2⟩ | ⟨h1,h3,h2⟩ | ⟨h1,h3,h4,h2⟩ | ⟨h1,h3,h4,h2⟩
 ·have hI:=hD (is_any u hu)
  rw [h1] at hI
  rw [h.out] at h2
  subst h2
  clear h h1
  go_enter Tryz.func150,Tryz.ntmps150
  go_wp2_with fail
  refine (hI.out _).mono ?_
  rintro e w1 ⟨rfl,b⟩
  have B1:=hD (below2Z B0.out b)
  obtain⟨c0,c1,c2,c3,c4,c5⟩:=cells6 (HC.out.later b)
  simp only [Nat.zero_add] at c0 c1 c2 c3 c4 c5
  clear b
  go_wp2_with fail
  go_ret
  exact⟨rfl,B1.out⟩
 ·have hI:=hD (is_any u hu)
  rw [h1] at hI
  rw [h.out] at h2
  subst h2
  have t1:decide (0≤id)=false:=by simpa using h3
  clear h h1
  go_enter Tryz.func150,Tryz.ntmps150
  go_wp2_with fail
  refine (hI.out _).mono ?_
  rintro e w1 ⟨rfl,b⟩
  have B1:=hD (below2Z B0.out b)
  obtain⟨c0,c1,c2,c3,c4,c5⟩:=cells6 (HC.out.later b)
  simp only [Nat.zero_add] at c0 c1 c2 c3 c4 c5
  clear b
  go_wp2_with fail
  go_ret
  exact⟨rfl,B1.out⟩
 ·have hI:=hD (is_any u hu)
  rw [h1] at hI
  rw [h.out] at h2
  subst h2
  have t1:decide (0≤id)=true:=by simpa using h3
  have t2:decide (id < 4)=false:=by simpa using h4
  clear h h1
  go_enter Tryz.func150,Tryz.ntmps150
  go_wp2_with fail
  refine (hI.out _).mono ?_
  rintro e w1 ⟨rfl,b⟩
  have B1:=hD (below2Z B0.out b)
  obtain⟨c0,c1,c2,c3,c4,c5⟩:=cells6 (HC.out.later b)
  simp only [Nat.zero_add] at c0 c1 c2 c3 c4 c5
  clear b
  go_wp2_with fail
  go_ret
  exact⟨rfl,B1.out⟩
 ·have hI:=hD (is_any u hu)
  rw [h1] at hI
  rw [h.out] at h2
  have hV:=hD (may_any a b c st hst)
  rw [← h2] at hV
  have t1:decide (0≤id)=true:=by simpa using h3
  have t2:decide (id < 4)=true:=by simpa using h4
  clear h h1 h2
  go_enter Tryz.func150,Tryz.ntmps150
  go_wp2_with fail
  refine (hI.out _).mono ?_
  rintro e w1 ⟨rfl,b⟩
  have B1:=hD (below2Z B0.out b)
  obtain⟨c0,c1,c2,c3,c4,c5⟩:=cells6 (HC.out.later b)
  simp only [Nat.zero_add] at c0 c1 c2 c3 c4 c5
  clear b
  go_wp2_with fail
  refine (hV.out _).mono ?_
  rintro e w2 ⟨rfl,b⟩
  have B2:=hD (below2Z B1.out b)
  clear b
  go_wp2_with fail
  go_ret
  exact⟨rfl,B2.out⟩

end Go.Proofs.YtphfinlfabklmaaGreat

end
