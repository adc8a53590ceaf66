/-
 TEXTS OF THE PROOF, one behind the other: ValMay.
-/
import Derived.Test.YtekkofldhhdpgaaGreatD02
import Derived.Test.YtekkofldhhdpgaaGreatD01

set_option maxHeartbeats 12800000
set_option maxRecDepth 100000

namespace Go.Proofs.YtekkofldhhdpgaaGreat
open Go.RowKit

theorem chOk_lo {b:UInt8} (h:b.toNat < 32):chOk b=false:=by unfold chOk; simp; omega
theorem chOk_hi {b:UInt8} (h:126 < b.toNat):chOk b=false:=by unfold chOk; simp; omega
theorem chOk_yes {b:UInt8} (h:¬ b.toNat < 32) (h':¬ 126 < b.toNat):chOk b=true:=by unfold chOk; simp; omega

theorem all_take_succ {l:List UInt8} {k:Nat} {b:UInt8} (hb:l[k]?=some b) (p:UInt8→Bool):(l.take (k+1)).all p=((l.take k).all p && p b):=by
 obtain⟨h1,h2⟩:=List.getElem?_eq_some_iff.1 hb
 rw [List.take_succ_eq_append_getElem h1,h2,List.all_append]
 simp

theorem all_no {l:List UInt8} {k:Nat} {b:UInt8} (hb:l[k]?=some b) {p:UInt8→Bool} (h:p b=false):l.all p=false:=by
 obtain⟨h1,h2⟩:=List.getElem?_eq_some_iff.1 hb
 rw [Bool.eq_false_iff]
 intro h'
 have:=List.all_eq_true.1 h' l[k] (List.getElem_mem h1)
 rw [h2,h] at this
 cases this

theorem stat_any (l:List UInt8) (hl:l.length≤4294967296) (w:World) :
  Calls Tryz.prog 151 #[.string ⟨l.toArray⟩] w fun e w' => e=.returned (.bool (stOk l))∧w=w':=by
 by_cases h:32 < l.length
 ·have HR:Hid (stOk l=false):=by show _=_; unfold stOk; simp; omega
  go_enter Tryz.func151,Tryz.ntmps151
  go_wp2_with fail
  go_ret
  exact⟨by rw [HR.out]; rfl,rfl⟩
 ·have h32:decide (l.length≤32)=true:=by simp; omega
  have H32:=hZq h32
  clear h32
  go_enter Tryz.func151,Tryz.ntmps151
  go_wp2_with fail
  go_loop [9] (fun i => ∃ k:Nat,k≤l.length∧i=.int .i64 k∧Hid ((l.take k).all chOk=true)) (fun i => l.length - (intOf i).toNat)
  case atStart => exact⟨0,by omega,rfl,by show _=_; simp⟩
  case round =>
   obtain⟨k,hk,rfl,HA⟩:=hrel
   by_cases hlt:k < l.length
   ·have hlt':k < (⟨l.toArray⟩ : ByteArray).size:=by rw [size_bytes]; exact hlt
    obtain⟨b,hb⟩ : ∃ b:UInt8,(⟨l.toArray⟩ : ByteArray)[k]'hlt'=b:=⟨_,rfl⟩
    have HB:Hid (l[k]?=some b):=by rw [← hb]; exact bytes_at l k hlt'
    have h256:=b.toNat_lt
    by_cases h1:b.toNat < 32
    ·have HN:Hid (stOk l=false):=by show _=_; unfold stOk; rw [all_no HB.out (chOk_lo h1)]; simp
     go_wp2_with fail
     go_ret
     exact⟨by rw [HN.out]; rfl,rfl⟩
    ·by_cases h2:126 < b.toNat
     ·have HN:Hid (stOk l=false):=by show _=_; unfold stOk; rw [all_no HB.out (chOk_hi h2)]; simp
      go_wp2_with fail
      go_ret
      exact⟨by rw [HN.out]; rfl,rfl⟩
     ·have HN:Hid ((l.take (k+1)).all chOk=true):=by show _=_; rw [all_take_succ HB.out,HA.out,chOk_yes h1 h2]; rfl
      go_wp2_with fail
      go_round
      case rel => exact⟨k+1,by omega,by go_num,HN⟩
      case measure => simp [intOf]; omega
   ·obtain rfl:k=l.length:=by omega
    have HR:Hid (stOk l=true):=by
     show _=_
     have:=HA.out
     rw [List.take_length] at this
     unfold stOk
     rw [this,H32.out]
     rfl
    go_wp2_with fail
    go_ret
    exact⟨by rw [HR.out]; rfl,rfl⟩

def numsV (a b c:Int) (l:List UInt8):Value:=.agg #[.int .i64 a,.int .i64 b,.int .i64 c,.string ⟨l.toArray⟩]

theorem numsOk_cases (a b c:Int):(numsOk a b c=true∧1≤a∧a≤4∧-128≤b∧b≤127∧0≤c∧c≤1099511627776) ∨
  (numsOk a b c=false∧(a < 1∨(1≤a∧4 < a)∨(1≤a∧a≤4∧b < -128)∨(1≤a∧a≤4∧-128≤b∧127 < b)∨(1≤a∧a≤4∧-128≤b∧b≤127∧c < 0)∨(1≤a∧a≤4∧-128≤b∧b≤127∧0≤c∧1099511627776 < c))):=by
 unfold numsOk
 by_cases h:1≤a∧a≤4∧-128≤b∧b≤127∧0≤c∧c≤1099511627776
 ·exact .inl ⟨by simpa using h,h⟩
 ·exact .inr ⟨by simpa using h,by omega⟩

theorem may_any (a b c:Int) (l:List UInt8) (hl:l.length≤4294967296) (w:World) :
  Calls Tryz.prog 102 #[.agg #[.int .i64 a,.int .i64 b,.int .i64 c,.string ⟨l.toArray⟩]] w fun e w' => e=.returned (.bool (vaMay ⟨a,b,c,l⟩))∧Below w.heap.size w w':=by
 rcases numsOk_cases a b c with ⟨h,h1,h2,h3,h4,h5,h6⟩ | ⟨h,hor⟩
 ·have HR:Hid (vaMay ⟨a,b,c,l⟩=stOk l):=by show _=_; unfold vaMay; simp only; rw [h]; rfl
  clear h
  go_enter Tryz.func102,Tryz.ntmps102
  go_wp2_with fail
  refine (stat_any l hl _).mono ?_
  rintro e w' ⟨rfl,rfl⟩
  go_wp2_with fail
  go_ret
  exact⟨by rw [HR.out]; rfl,(Below.refl _ _).alloc (Nat.le_refl _) _⟩
 ·have HR:Hid (vaMay ⟨a,b,c,l⟩=false):=by show _=_; unfold vaMay; simp only; rw [h]; rfl
  clear h
  rcases hor with h1 | ⟨h1,h2⟩ | ⟨h1,h2,h3⟩ | ⟨h1,h2,h3,h4⟩ | ⟨h1,h2,h3,h4,h5⟩ | ⟨h1,h2,h3,h4,h5,h6⟩
  all_goals
   go_enter Tryz.func102,Tryz.ntmps102
   go_wp2_with fail
   go_ret
   exact⟨by rw [HR.out]; rfl,(Below.refl _ _).alloc (Nat.le_refl _) _⟩

theorem rmay_any (a b c:Int) (l:List UInt8) (hl:l.length≤4294967296) (w:World) :
  Calls Tryz.prog 67 #[.agg #[.int .i64 a,.int .i64 b,.int .i64 c,.string ⟨l.toArray⟩]] w fun e w' => e=.returned (.bool (vaMay ⟨a,b,c,l⟩))∧Below w.heap.size w w':=by
 rcases numsOk_cases a b c with ⟨h,h1,h2,h3,h4,h5,h6⟩ | ⟨h,hor⟩
 ·have HM:Hid (vaMay ⟨a,b,c,l⟩=stOk l):=by show _=_; unfold vaMay; simp only; rw [h]; rfl
  clear h
  by_cases h:32 < l.length
  ·have HR:Hid (vaMay ⟨a,b,c,l⟩=false):=by show _=_; rw [HM.out]; unfold stOk; simp; omega
   clear HM
   go_enter Tryz.func67,Tryz.ntmps67
   go_wp2_with fail
   go_ret
   exact⟨by rw [HR.out]; rfl,(Below.refl _ _).alloc (Nat.le_refl _) _⟩
  ·have h32:decide (l.length≤32)=true:=by simp; omega
   have H32:=hZq h32
   clear h32
   go_enter Tryz.func67,Tryz.ntmps67
   go_wp2_with fail
   go_loop [3] (fun i => ∃ k:Nat,k≤l.length∧i=.int .i64 k∧Hid ((l.take k).all chOk=true)) (fun i => l.length - (intOf i).toNat)
   case atStart => exact⟨0,by omega,rfl,by show _=_; simp⟩
   case round =>
    obtain⟨k,hk,rfl,HA⟩:=hrel
    by_cases hlt:k < l.length
    ·have hlt':k < (⟨l.toArray⟩ : ByteArray).size:=by rw [size_bytes]; exact hlt
     obtain⟨b,hb⟩ : ∃ b:UInt8,(⟨l.toArray⟩ : ByteArray)[k]'hlt'=b:=⟨_,rfl⟩
     have HB:Hid (l[k]?=some b):=by rw [← hb]; exact bytes_at l k hlt'
     have h256:=b.toNat_lt
     by_cases h1:b.toNat < 32
     ·have HN:Hid (stOk l=false):=by show _=_; unfold stOk; rw [all_no HB.out (chOk_lo h1)]; simp
      go_wp2_with fail
      go_ret
      exact⟨by rw [HM.out,HN.out]; rfl,(Below.refl _ _).alloc (Nat.le_refl _) _⟩
     ·by_cases h2:126 < b.toNat
      ·have HN:Hid (stOk l=false):=by show _=_; unfold stOk; rw [all_no HB.out (chOk_hi h2)]; simp
       go_wp2_with fail
       go_ret
       exact⟨by rw [HM.out,HN.out]; rfl,(Below.refl _ _).alloc (Nat.le_refl _) _⟩
      ·have HN:Hid ((l.take (k+1)).all chOk=true):=by show _=_; rw [all_take_succ HB.out,HA.out,chOk_yes h1 h2]; rfl
       go_wp2_with fail
       go_round
       case rel => exact⟨k+1,by omega,by go_num,HN⟩
       case measure => simp [intOf]; omega
    ·obtain rfl:k=l.length:=by omega
     have HR:Hid (stOk l=true):=by
      show _=_
      have:=HA.out
      rw [List.take_length] at this
      unfold stOk
      rw [this,H32.out]
      rfl
     go_wp2_with fail
     go_ret
     exact⟨by rw [HM.out,HR.out]; rfl,(Below.refl _ _).alloc (Nat.le_refl _) _⟩
 ·have HR:Hid (vaMay ⟨a,b,c,l⟩=false):=by show _=_; unfold vaMay; simp only; rw [h]; rfl
  clear h
  rcases hor with h1 | ⟨h1,h2⟩ | ⟨h1,h2,h3⟩ | ⟨h1,h2,h3,h4⟩ | ⟨h1,h2,h3,h4,h5⟩ | ⟨h1,h2,h3,h4,h5,h6⟩
  all_goals
   go_enter Tryz.func67,Tryz.ntmps67
   go_wp2_with fail
   go_ret
   exact⟨by rw [HR.out]; rfl,(Below.refl _ _).alloc (Nat.le_refl _) _⟩

end Go.Proofs.YtekkofldhhdpgaaGreat
