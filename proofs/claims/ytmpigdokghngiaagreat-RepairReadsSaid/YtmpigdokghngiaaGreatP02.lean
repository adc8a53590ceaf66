/-
 TEXTS OF THE PROOF, one behind the other: IdRef, ValMay, ValPut, ValTake, ValRtake, DigMay, DigRmay, ShelfW, DigPut, DigRput, DigSum.
-/
import Derived.Test.YtmpigdokghngiaaGreatP01
import Derived.Laws.IdiomStrings
import Derived.Deep.RegionHeld
import Derived.Lib.QuietBelow

set_option maxHeartbeats 12800000
set_option maxRecDepth 100000

namespace Go.Proofs.YtmpigdokghngiaaGreat
section
open Go.RowKit

theorem ris_any (l:List UInt8) (hl:l.length≤4294967296) (w:World) :
  Calls Tryz.prog 60 #[.string ⟨l.toArray⟩] w fun e w' => e=.returned (.bool (idIs l))∧w=w':=by
 by_cases h0:l.length < 1
 ·obtain rfl:l=[]:=List.length_eq_zero_iff.1 (by omega)
  clear h0
  go_enter Tryz.func60,Tryz.ntmps60
  go_wp2_with fail
  go_ret
  exact⟨rfl,rfl⟩
 ·have hpos:1≤l.length:=by omega
  clear h0
  by_cases h16:16 < l.length
  ·have HR:=hZq (idIs_long h16)
   go_enter Tryz.func60,Tryz.ntmps60
   go_wp2_with fail
   go_ret
   exact⟨by rw [HR.out]; rfl,rfl⟩
  ·have hq:0 < (⟨l.toArray⟩ : ByteArray).size:=by rw [size_bytes]; omega
   obtain⟨x,hx⟩ : ∃ x:UInt8,(⟨l.toArray⟩ : ByteArray)[0]'hq=x:=⟨_,rfl⟩
   have hx256:=x.toNat_lt
   have HX:Hid (l[0]?=some x):=by show _=_; rw [← hx]; exact bytes_at l 0 hq
   by_cases hlow:x.toNat < 97
   ·have HR:Hid (idIs l=false):=idIs_first HX.out (by unfold lcOk; simp; omega)
    go_enter Tryz.func60,Tryz.ntmps60
    go_wp2_with fail
    go_ret
    exact⟨by rw [HR.out]; rfl,rfl⟩
   ·by_cases hhi:122 < x.toNat
    ·have HR:Hid (idIs l=false):=idIs_first HX.out (by unfold lcOk; simp; omega)
     go_enter Tryz.func60,Tryz.ntmps60
     go_wp2_with fail
     go_ret
     exact⟨by rw [HR.out]; rfl,rfl⟩
    ·have HF:Hid (lcOk (l.getD 0 0)=true):=by show _=_; rw [List.getD,HX.out]; unfold lcOk; simp; omega
     go_enter Tryz.func60,Tryz.ntmps60
     go_wp2_with fail
     clear hx
     go_loop [3] (fun i => ∃ k:Nat,k≤l.length∧i=.int .i64 k∧Hid ((l.take k).all inOk=true)) (fun i => l.length - (intOf i).toNat)
     case atStart => exact⟨0,by omega,rfl,by show _=_; simp⟩
     case round =>
      obtain⟨k,hk,rfl,HA⟩:=hrel
      by_cases hlt:k < l.length
      ·have hlt':k < (⟨l.toArray⟩ : ByteArray).size:=by rw [size_bytes]; exact hlt
       obtain⟨b,hb⟩ : ∃ b:UInt8,(⟨l.toArray⟩ : ByteArray)[k]'hlt'=b:=⟨_,rfl⟩
       have HB:Hid (l[k]?=some b):=by show _=_; rw [← hb]; exact bytes_at l k hlt'
       have hb256:=b.toNat_lt
       have hcase:(97≤b.toNat∧b.toNat≤122)∨(48≤b.toNat∧b.toNat≤57)∨b.toNat=45∨(b.toNat < 48∧¬ b.toNat=45)∨(57 < b.toNat∧b.toNat < 97)∨122 < b.toNat:=by omega
       have HC:=hZq hcase
       clear hcase hpos h16 hlow hhi
       rcases HC.out with ⟨h1,h2⟩ | ⟨h1,h2⟩ | h1 | ⟨h1,h2⟩ | ⟨h1,h2⟩ | h1
       ·have HN:Hid ((l.take (k+1)).all inOk=true):=by show _=_; rw [all_succ HB.out,HA.out]; simp [inOk,lcOk,dgOk]; omega
        go_wp2_with fail
        go_round
        case rel => exact⟨k+1,by omega,by go_num,HN⟩
        case measure => simp [intOf]; omega
       ·have HN:Hid ((l.take (k+1)).all inOk=true):=by show _=_; rw [all_succ HB.out,HA.out]; simp [inOk,lcOk,dgOk]; omega
        go_wp2_with fail
        go_round
        case rel => exact⟨k+1,by omega,by go_num,HN⟩
        case measure => simp [intOf]; omega
       ·have HN:Hid ((l.take (k+1)).all inOk=true):=by show _=_; rw [all_succ HB.out,HA.out]; simp [inOk,lcOk,dgOk]; omega
        have t5:((b.toNat:Int) != 45)=false:=by rw [h1]; rfl
        go_wp2_with fail
        go_round
        case rel => exact⟨k+1,by omega,by go_num,HN⟩
        case measure => simp [intOf]; omega
       all_goals
        have HR:Hid (idIs l=false):=idIs_bad HB.out (by simp [inOk,lcOk,dgOk]; omega)
        have t5:((b.toNat:Int) != 45)=true:=by simp; omega
        go_wp2_with fail
        go_ret
        exact⟨by rw [HR.out]; rfl,rfl⟩
      ·obtain rfl:k=l.length:=by omega
       have HR:Hid (idIs l=true):=idIs_mk hpos (by omega) HF.out (by have:=HA.out; rwa [List.take_length] at this)
       go_wp2_with fail
       go_ret
       exact⟨by rw [HR.out]; rfl,rfl⟩

theorem ris_eq (l:List UInt8) (hl:l.length≤4294967296) {r:Bool} (h:Hid (idIs l=r)) (w:World) :
  Calls Tryz.prog 60 #[.string ⟨l.toArray⟩] w fun e w' => e=.returned (.bool r)∧w=w':=by
 have:=ris_any l hl w
 rwa [h.out] at this

def lowAt (l:List UInt8) (k:Nat):List UInt8:=idLow (l.take k) ++ l.drop k

def RowB (w:World) (B:Nat) (u:List UInt8):Prop:=∀ j,j < u.length→w.cell? ⟨B,j,none⟩=some (.int .u8 (u.getD j 0).toNat)∧w.frozen? ⟨B,j,none⟩=false

theorem RowB.drew {w:World} {B:Nat} {u:List UInt8} (h:RowB w B u):RowB w.drew B u:=h

theorem RowB.set {w:World} {B:Nat} {u:List UInt8} (h:RowB w B u) (j:Nat) (b:UInt8) (hj:j < u.length):RowB (w.setCell ⟨B,j,none⟩ (.int .u8 b.toNat)) B (u.set j b):=by
 intro i hi
 have hi':i < u.length:=by simpa using hi
 refine ⟨?_,(World.frozen?_setCell w _ _ _).trans (h i hi').2⟩
 by_cases hij:i=j
 ·subst hij
  rw [World.cell?_setCell_same _ _ _ (h i hj).1]
  simp [List.getD,hj]
 ·rw [World.cell?_setCell_other _ _ _ _ (by simp),(h i hi').1]
  simp [List.getD,show ¬ j=i by omega]

theorem row_text {w:World} {B:Nat} {u:List UInt8} (h:RowB w B u) (cap:Nat) :
  (convert 118 9 (.slice (some ⟨B,0,none⟩) u.length cap)).run Tryz.prog w=.ok (.string ⟨u.toArray⟩) w :=
 run_convert_bytes_back (P:=Tryz.prog) w 118 9 5 ⟨B,0,none⟩ cap u Tryz.underlying118 Tryz.underlying5 Tryz.underlying9 (fun j hj => by
  have:=(h j hj).1
  rw [Addr.add_lit,Nat.zero_add,this]
  simp [List.getD,List.getElem?_eq_getElem hj])

theorem ridput_eq (l:List UInt8) (hl:l.length≤4294967296) {t:List UInt8} {r:Bool} (h:Hid (idPut l=(t,r))) (w:World) :
  Calls Tryz.prog 85 #[.string ⟨l.toArray⟩] w fun e w' => e=.returned (.tuple #[.string ⟨t.toArray⟩,.bool r])∧Below w.heap.size w w':=by
 have e:=h.out
 unfold idPut at e
 clear h
 cases hi:idIs l with
 | false =>
  rw [hi] at e
  simp only [Bool.false_eq_true,if_false,Prod.mk.injEq] at e
  obtain⟨rfl,rfl⟩:=e
  have HI:=hZq hi
  clear hi
  go_enter Tryz.func85,Tryz.ntmps85
  go_wp2_with fail
  refine (ris_eq l hl HI _).mono ?_
  rintro e w1 ⟨rfl,rfl⟩
  go_wp2_with fail
  go_ret2
  exact⟨rfl,Below.refl _ _⟩
 | true =>
  rw [hi] at e
  simp only [if_true,Prod.mk.injEq] at e
  obtain⟨rfl,rfl⟩:=e
  have HI:=hZq hi
  clear hi
  go_enter Tryz.func85,Tryz.ntmps85
  go_wp2_with fail
  refine (ris_eq l hl HI _).mono ?_
  rintro e w1 ⟨rfl,rfl⟩
  go_wp2_with fail
  refine (rtext_any l hl _).mono ?_
  rintro e w2 ⟨rfl,hb2⟩
  go_wp2_with fail
  go_ret2
  exact⟨rfl,hb2⟩

theorem rtake_eq16 (l:List UInt8) (hl:l.length≤4294967296) (p:Int) (w:World) {t:List UInt8} {f er:Nat} (h:Hid (vtake l p 16=(t,f,er))) :
  Calls Tryz.prog 143 #[.string ⟨l.toArray⟩,.int .i64 p,.int .i64 16] w fun e w' => e=.returned (.tuple #[.string ⟨t.toArray⟩,.int .i64 f,.int .i64 er])∧w=w':=rtake_eq l hl p 16 (by decide) w h

theorem ridtake_eq (l:List UInt8) (hl:l.length≤4294967296) (p:Int) {t:List UInt8} {f er:Nat} (h:Hid (idTake l p=(t,f,er))) (w:World) :
  Calls Tryz.prog 107 #[.string ⟨l.toArray⟩,.int .i64 p] w fun e w' => e=.returned (.tuple #[.string ⟨t.toArray⟩,.int .i64 f,.int .i64 er])∧w=w':=by
 obtain⟨u,g,ue,hu⟩ : ∃ u g ue,vtake l p 16=(u,g,ue):=⟨_,_,_,rfl⟩
 have e:=h.out
 unfold idTake at e
 rw [hu] at e
 dsimp only at e
 have hs:=vtake_short hu
 have HU:=hZq hu
 clear h hu
 by_cases he:ue=0
 ·subst he
  rw [if_neg (by simp)] at e
  cases hi:idIs u with
  | false =>
   rw [hi] at e
   simp only [Bool.false_eq_true,if_false,Prod.mk.injEq] at e
   obtain⟨rfl,rfl,rfl⟩:=e
   have HI:=hZq hi
   clear hi
   go_enter Tryz.func107,Tryz.ntmps107
   go_wp2_with fail
   refine (rtake_eq16 l hl p _ HU).mono ?_
   rintro e w1 ⟨rfl,rfl⟩
   go_wp2_with fail
   refine (ris_eq u (by omega) HI _).mono ?_
   rintro e w1 ⟨rfl,rfl⟩
   go_wp2_with fail
   go_ret3
   exact⟨rfl,rfl⟩
  | true =>
   rw [hi] at e
   simp only [if_true,Prod.mk.injEq] at e
   obtain⟨rfl,rfl,rfl⟩:=e
   have HI:=hZq hi
   clear hi
   go_enter Tryz.func107,Tryz.ntmps107
   go_wp2_with fail
   refine (rtake_eq16 l hl p _ HU).mono ?_
   rintro e w1 ⟨rfl,rfl⟩
   go_wp2_with fail
   refine (ris_eq u (by omega) HI _).mono ?_
   rintro e w1 ⟨rfl,rfl⟩
   go_wp2_with fail
   go_ret3
   exact⟨rfl,rfl⟩
 ·rw [if_pos he] at e
  simp only [Prod.mk.injEq] at e
  obtain⟨rfl,rfl,rfl⟩:=e
  have t1:((ue:Int) != 0)=true:=by simp; omega
  clear he
  go_enter Tryz.func107,Tryz.ntmps107
  go_wp2_with fail
  refine (rtake_eq16 l hl p _ HU).mono ?_
  rintro e w1 ⟨rfl,rfl⟩
  go_wp2_with fail
  go_ret3
  exact⟨rfl,rfl⟩
end
section
open Go.RowKit

theorem chOk_lo {b:UInt8} (h:b.toNat < 32):chOk b=false:=by unfold chOk; simp; omega
theorem chOk_hi {b:UInt8} (h:126 < b.toNat):chOk b=false:=by unfold chOk; simp; omega
theorem chOk_yes {b:UInt8} (h:¬ b.toNat < 32) (h':¬ 126 < b.toNat):chOk b=true:=by unfold chOk; simp; omega

theorem all_take_succ {l:List UInt8} {k:Nat} {b:UInt8} (hb:l[k]?=some b) (p:UInt8→Bool):(l.take (k+1)).all p=((l.take k).all p && p b):=by
 obtain⟨h1,h2⟩:=List.getElem?_eq_some_iff.1 hb
 rw [List.take_succ_eq_append_getElem h1,h2,List.all_append]
 simp

theorem all_no {l:List UInt8} {k:Nat} {b:UInt8} (hb:l[k]?=some b) {p:UInt8→Bool} (h:p b=false):l.all p=false:=by
 obtain⟨h1,h2⟩:=List.getElem?_eq_some_iff.1 hb
 rw [Bool.eq_false_iff]
 intro h'
 have:=List.all_eq_true.1 h' l[k] (List.getElem_mem h1)
 rw [h2,h] at this
 cases this

theorem stat_any (l:List UInt8) (hl:l.length≤4294967296) (w:World) :
  Calls Tryz.prog 114 #[.string ⟨l.toArray⟩] w fun e w' => e=.returned (.bool (stOk l))∧w=w':=by
 by_cases h:32 < l.length
 ·have HR:Hid (stOk l=false):=by show _=_; unfold stOk; simp; omega
  go_enter Tryz.func114,Tryz.ntmps114
  go_wp2_with fail
  go_ret
  exact⟨by rw [HR.out]; rfl,rfl⟩
 ·have h32:decide (l.length≤32)=true:=by simp; omega
  have H32:=hZq h32
  clear h32
  go_enter Tryz.func114,Tryz.ntmps114
  go_wp2_with fail
  go_loop [9] (fun i => ∃ k:Nat,k≤l.length∧i=.int .i64 k∧Hid ((l.take k).all chOk=true)) (fun i => l.length - (intOf i).toNat)
  case atStart => exact⟨0,by omega,rfl,by show _=_; simp⟩
  case round =>
   obtain⟨k,hk,rfl,HA⟩:=hrel
   by_cases hlt:k < l.length
   ·have hlt':k < (⟨l.toArray⟩ : ByteArray).size:=by rw [size_bytes]; exact hlt
    obtain⟨b,hb⟩ : ∃ b:UInt8,(⟨l.toArray⟩ : ByteArray)[k]'hlt'=b:=⟨_,rfl⟩
    have HB:Hid (l[k]?=some b):=by rw [← hb]; exact bytes_at l k hlt'
    have h256:=b.toNat_lt
    by_cases h1:b.toNat < 32
    ·have HN:Hid (stOk l=false):=by show _=_; unfold stOk; rw [all_no HB.out (chOk_lo h1)]; simp
     go_wp2_with fail
     go_ret
     exact⟨by rw [HN.out]; rfl,rfl⟩
    ·by_cases h2:126 < b.toNat
     ·have HN:Hid (stOk l=false):=by show _=_; unfold stOk; rw [all_no HB.out (chOk_hi h2)]; simp
      go_wp2_with fail
      go_ret
      exact⟨by rw [HN.out]; rfl,rfl⟩
     ·have HN:Hid ((l.take (k+1)).all chOk=true):=by show _=_; rw [all_take_succ HB.out,HA.out,chOk_yes h1 h2]; rfl
      go_wp2_with fail
      go_round
      case rel => exact⟨k+1,by omega,by go_num,HN⟩
      case measure => simp [intOf]; omega
   ·obtain rfl:k=l.length:=by omega
    have HR:Hid (stOk l=true):=by
     show _=_
     have:=HA.out
     rw [List.take_length] at this
     unfold stOk
     rw [this,H32.out]
     rfl
    go_wp2_with fail
    go_ret
    exact⟨by rw [HR.out]; rfl,rfl⟩

def numsV (a b c:Int) (l:List UInt8):Value:=.agg #[.int .i64 a,.int .i64 b,.int .i64 c,.string ⟨l.toArray⟩]

theorem numsOk_cases (a b c:Int):(numsOk a b c=true∧1≤a∧a≤4∧-128≤b∧b≤127∧0≤c∧c≤1099511627776) ∨
  (numsOk a b c=false∧(a < 1∨(1≤a∧4 < a)∨(1≤a∧a≤4∧b < -128)∨(1≤a∧a≤4∧-128≤b∧127 < b)∨(1≤a∧a≤4∧-128≤b∧b≤127∧c < 0)∨(1≤a∧a≤4∧-128≤b∧b≤127∧0≤c∧1099511627776 < c))):=by
 unfold numsOk
 by_cases h:1≤a∧a≤4∧-128≤b∧b≤127∧0≤c∧c≤1099511627776
 ·exact .inl ⟨by simpa using h,h⟩
 ·exact .inr ⟨by simpa using h,by omega⟩

theorem may_any (a b c:Int) (l:List UInt8) (hl:l.length≤4294967296) (w:World) :
  Calls Tryz.prog 91 #[.agg #[.int .i64 a,.int .i64 b,.int .i64 c,.string ⟨l.toArray⟩]] w fun e w' => e=.returned (.bool (vaMay ⟨a,b,c,l⟩))∧Below w.heap.size w w':=by
 rcases numsOk_cases a b c with ⟨h,h1,h2,h3,h4,h5,h6⟩ | ⟨h,hor⟩
 ·have HR:Hid (vaMay ⟨a,b,c,l⟩=stOk l):=by show _=_; unfold vaMay; simp only; rw [h]; rfl
  clear h
  go_enter Tryz.func91,Tryz.ntmps91
  go_wp2_with fail
  refine (stat_any l hl _).mono ?_
  rintro e w' ⟨rfl,rfl⟩
  go_wp2_with fail
  go_ret
  exact⟨by rw [HR.out]; rfl,(Below.refl _ _).alloc (Nat.le_refl _) _⟩
 ·have HR:Hid (vaMay ⟨a,b,c,l⟩=false):=by show _=_; unfold vaMay; simp only; rw [h]; rfl
  clear h
  rcases hor with h1 | ⟨h1,h2⟩ | ⟨h1,h2,h3⟩ | ⟨h1,h2,h3,h4⟩ | ⟨h1,h2,h3,h4,h5⟩ | ⟨h1,h2,h3,h4,h5,h6⟩
  all_goals
   go_enter Tryz.func91,Tryz.ntmps91
   go_wp2_with fail
   go_ret
   exact⟨by rw [HR.out]; rfl,(Below.refl _ _).alloc (Nat.le_refl _) _⟩

theorem rmay_any (a b c:Int) (l:List UInt8) (hl:l.length≤4294967296) (w:World) :
  Calls Tryz.prog 61 #[.agg #[.int .i64 a,.int .i64 b,.int .i64 c,.string ⟨l.toArray⟩]] w fun e w' => e=.returned (.bool (vaMay ⟨a,b,c,l⟩))∧Below w.heap.size w w':=by
 rcases numsOk_cases a b c with ⟨h,h1,h2,h3,h4,h5,h6⟩ | ⟨h,hor⟩
 ·have HM:Hid (vaMay ⟨a,b,c,l⟩=stOk l):=by show _=_; unfold vaMay; simp only; rw [h]; rfl
  clear h
  by_cases h:32 < l.length
  ·have HR:Hid (vaMay ⟨a,b,c,l⟩=false):=by show _=_; rw [HM.out]; unfold stOk; simp; omega
   clear HM
   go_enter Tryz.func61,Tryz.ntmps61
   go_wp2_with fail
   go_ret
   exact⟨by rw [HR.out]; rfl,(Below.refl _ _).alloc (Nat.le_refl _) _⟩
  ·have h32:decide (l.length≤32)=true:=by simp; omega
   have H32:=hZq h32
   clear h32
   go_enter Tryz.func61,Tryz.ntmps61
   go_wp2_with fail
   go_loop [3] (fun i => ∃ k:Nat,k≤l.length∧i=.int .i64 k∧Hid ((l.take k).all chOk=true)) (fun i => l.length - (intOf i).toNat)
   case atStart => exact⟨0,by omega,rfl,by show _=_; simp⟩
   case round =>
    obtain⟨k,hk,rfl,HA⟩:=hrel
    by_cases hlt:k < l.length
    ·have hlt':k < (⟨l.toArray⟩ : ByteArray).size:=by rw [size_bytes]; exact hlt
     obtain⟨b,hb⟩ : ∃ b:UInt8,(⟨l.toArray⟩ : ByteArray)[k]'hlt'=b:=⟨_,rfl⟩
     have HB:Hid (l[k]?=some b):=by rw [← hb]; exact bytes_at l k hlt'
     have h256:=b.toNat_lt
     by_cases h1:b.toNat < 32
     ·have HN:Hid (stOk l=false):=by show _=_; unfold stOk; rw [all_no HB.out (chOk_lo h1)]; simp
      go_wp2_with fail
      go_ret
      exact⟨by rw [HM.out,HN.out]; rfl,(Below.refl _ _).alloc (Nat.le_refl _) _⟩
     ·by_cases h2:126 < b.toNat
      ·have HN:Hid (stOk l=false):=by show _=_; unfold stOk; rw [all_no HB.out (chOk_hi h2)]; simp
       go_wp2_with fail
       go_ret
       exact⟨by rw [HM.out,HN.out]; rfl,(Below.refl _ _).alloc (Nat.le_refl _) _⟩
      ·have HN:Hid ((l.take (k+1)).all chOk=true):=by show _=_; rw [all_take_succ HB.out,HA.out,chOk_yes h1 h2]; rfl
       go_wp2_with fail
       go_round
       case rel => exact⟨k+1,by omega,by go_num,HN⟩
       case measure => simp [intOf]; omega
    ·obtain rfl:k=l.length:=by omega
     have HR:Hid (stOk l=true):=by
      show _=_
      have:=HA.out
      rw [List.take_length] at this
      unfold stOk
      rw [this,H32.out]
      rfl
     go_wp2_with fail
     go_ret
     exact⟨by rw [HM.out,HR.out]; rfl,(Below.refl _ _).alloc (Nat.le_refl _) _⟩
 ·have HR:Hid (vaMay ⟨a,b,c,l⟩=false):=by show _=_; unfold vaMay; simp only; rw [h]; rfl
  clear h
  rcases hor with h1 | ⟨h1,h2⟩ | ⟨h1,h2,h3⟩ | ⟨h1,h2,h3,h4⟩ | ⟨h1,h2,h3,h4,h5⟩ | ⟨h1,h2,h3,h4,h5,h6⟩
  all_goals
   go_enter Tryz.func61,Tryz.ntmps61
   go_wp2_with fail
   go_ret
   exact⟨by rw [HR.out]; rfl,(Below.refl _ _).alloc (Nat.le_refl _) _⟩
end
section
open Go.RowKit
attribute [local go_sem] ByteArray.mk_append_mk

def vaPut (v:Val):List UInt8:=if vaMay v=true then vaBytes v else []

theorem cell_later {w w':World} {a:Addr} {v:Value} (h:w.cell? a=some v) (hb:Below w.heap.size w w'):w'.cell? a=some v :=
 (hb.cell (World.block_lt_of_cell? w a h)).trans h

theorem head_vals (a b:Int) (ha:1≤a) (ha':a≤4) (hb:-128≤b) (hb':b≤127):#[Value.int IntKind.u8 a,Value.int IntKind.u8 (b+128)]=(bvals [u8of a.toNat,u8of (b+128).toNat]).toArray:=by
 simp only [bvals,List.map_cons,List.map_nil]
 rw [u8of_toNat (by omega),u8of_toNat (by omega),show ((a.toNat:Nat):Int)=a by omega,show (((b+128).toNat:Nat):Int)=b+128 by omega]

theorem may_eq (a b c:Int) (l:List UInt8) (hl:l.length≤4294967296) {r:Bool} (h:Hid (vaMay ⟨a,b,c,l⟩=r)) (w:World) :
  Calls Tryz.prog 91 #[.agg #[.int .i64 a,.int .i64 b,.int .i64 c,.string ⟨l.toArray⟩]] w fun e w' => e=.returned (.bool r)∧Below w.heap.size w w':=by
 have:=may_any a b c l hl w
 rwa [h.out] at this

theorem rmay_eq (a b c:Int) (l:List UInt8) (hl:l.length≤4294967296) {r:Bool} (h:Hid (vaMay ⟨a,b,c,l⟩=r)) (w:World) :
  Calls Tryz.prog 61 #[.agg #[.int .i64 a,.int .i64 b,.int .i64 c,.string ⟨l.toArray⟩]] w fun e w' => e=.returned (.bool r)∧Below w.heap.size w w':=by
 have:=rmay_any a b c l hl w
 rwa [h.out] at this

theorem regrown_below {w w':World} (h:∃ p:Regrown,w'=Sort.grow (redrawn w p.d) p.os):Below w.heap.size w w':=by
 obtain⟨p,rfl⟩:=h
 exact below_regrown _ _ _

theorem four_cells (w:World) (a b c s:Value) (t:TypeId):(w.alloc (.cells #[a,b,c,s] t)).cell? ⟨w.heap.size,0,none⟩=some a∧(w.alloc (.cells #[a,b,c,s] t)).cell? ⟨w.heap.size,1,none⟩=some b∧(w.alloc (.cells #[a,b,c,s] t)).cell? ⟨w.heap.size,2,none⟩=some c∧(w.alloc (.cells #[a,b,c,s] t)).cell? ⟨w.heap.size,3,none⟩=some s :=
 ⟨by rw [World.cell?_alloc_at _ _ _ _ rfl]; rfl,by rw [World.cell?_alloc_at _ _ _ _ rfl]; rfl,by rw [World.cell?_alloc_at _ _ _ _ rfl]; rfl,by rw [World.cell?_alloc_at _ _ _ _ rfl]; rfl⟩

theorem vaput_yes (a b c:Int) (l:List UInt8) (hm:vaMay ⟨a,b,c,l⟩=true) (w:World) :
  Calls Tryz.prog 155 #[.agg #[.int .i64 a,.int .i64 b,.int .i64 c,.string ⟨l.toArray⟩]] w fun e w' => e=.returned (.tuple #[.string ⟨(vaBytes ⟨a,b,c,l⟩).toArray⟩,.bool true])∧Below w.heap.size w w':=by
 obtain⟨h1,h2,h3,h4,h5,h6,h7⟩:=vaMay_parts hm
 simp only at h1 h2 h3 h4 h5 h6 h7
 obtain⟨n,rfl⟩:=Int.eq_ofNat_of_zero_le h5
 have hl:l.length≤4294967296:=by omega
 have HM:=may_eq a b n l hl (hZq hm)
 have HM':=hZq HM
 have HP:=hZq (put_any n (by omega))
 have HT:=hZq (text_any l hl)
 have hcv:=fun w => run_convert_new (P:=Tryz.prog) w 118 5 9 Tryz.underlying118 Tryz.underlying5 Tryz.underlying9 _ _ (head_vals a b h1 h2 h3 h4) 2 rfl (by decide)
 have HV:Hid (vaBytes ⟨a,b,n,l⟩=[u8of a.toNat,u8of (b+128).toNat] ++ (vput n ++ (vput l.length ++ l))):=rfl
 have hz0:(0:Int)≤n:=by omega
 obtain⟨k0,k1,k2,k3⟩:=four_cells w (.int .i64 a) (.int .i64 b) (.int .i64 n) (.string ⟨l.toArray⟩) 53
 have HK0:=hZq k0
 have HK1:=hZq k1
 have HK2:=hZq k2
 have HK3:=hZq k3
 obtain⟨hd,hhd⟩ : ∃ hd,hd=[u8of a.toNat,u8of (b+128).toNat]:=⟨_,rfl⟩
 rw [← hhd] at hcv HV
 have hdl:hd.length≤2:=by rw [hhd]; simp
 have hvn:=vput_len_le n
 have hvl:=vput_len_le l.length
 clear hhd hm HM k0 k1 k2 k3 h5
 go_enter Tryz.func155,Tryz.ntmps155
 go_wp2_with fail
 refine (HM'.out _).mono ?_
 rintro e w1 ⟨rfl,hb1⟩
 have k0:=cell_later HK0.out hb1
 have k1:=cell_later HK1.out hb1
 have k2:=cell_later HK2.out hb1
 have k3:=cell_later HK3.out hb1
 have hsz1:w.heap.size+1≤w1.heap.size:=by have:=hb1.size; simpa using this
 have HB1:Hid (Below w.heap.size w w1):=below2' ((Below.refl _ _).alloc (Nat.le_refl _) _) hb1
 have HK2':=hZq k2
 have HK3':=hZq k3
 clear HK0 HK1 HK2 HK3 hb1
 go_wp2_with fail
 have r2:=cell_regrown (w:=w1.alloc (.cells #[.int .u8 a,.int .u8 (b+128)] 5)) (a:=⟨w.heap.size,2,none⟩) (v:=.int .i64 n) (by rw [World.cell?_alloc_lt _ _ _ (by show w.heap.size < w1.heap.size; omega)]; exact HK2'.out)
 have r3:=cell_regrown (w:=w1.alloc (.cells #[.int .u8 a,.int .u8 (b+128)] 5)) (a:=⟨w.heap.size,3,none⟩) (v:=.string ⟨l.toArray⟩) (by rw [World.cell?_alloc_lt _ _ _ (by show w.heap.size < w1.heap.size; omega)]; exact HK3'.out)
 clear k0 k1 k2 k3 hcv
 refine wp_region_quiet_below (by kernel_rfl) (by kernel_rfl) ?_
 repeat (go_big_quiet_step (first | with_reducible exact rgB HP.out _ _ _ | with_reducible exact rgB HT.out _ _ _))
 refine wpQuiet_nil ?_
 intro w3 hw3
 have hb3:=regrown_below hw3
 have HB3:Hid (Below w.heap.size w w3):=below3 HB1.out ((Below.refl _ _).alloc (Nat.le_refl _) _) hb3
 clear hw3 hb3 r2 r3
 go_wp2_with fail
 go_ret2
 exact⟨by rw [HV.out]; rfl,HB3.out⟩

theorem run_convert_two {P:Program} (w:World) (src e dst:TypeId) (hs:P.underlying src=some (.slice e)) (he:P.underlying e=some (.int .u8)) (hd:P.underlying dst=some .string)
  (B:Nat) (x y:UInt8) (X Y:Int) (hX:X=x.toNat) (hY:Y=y.toNat) (h0:w.cell? ⟨B,0,none⟩=some (.int .u8 X)) (h1:w.cell? ⟨B,1,none⟩=some (.int .u8 Y)) :
  (convert src dst (.slice (some ⟨B,0,none⟩) 2 2)).run P w=.ok (.string ⟨[x,y].toArray⟩) w:=by
 subst hX
 subst hY
 refine run_convert_bytes_back w src dst e ⟨B,0,none⟩ 2 [x,y] hs he hd (fun j hj => ?_)
 simp only [List.length_cons,List.length_nil] at hj
 match j,hj with
 | 0,_ => simpa [Addr.add] using h0
 | 1,_ => simpa [Addr.add] using h1

theorem bcell {W w1:World} (hb:Below W.heap.size W w1):(∀ b o,b < W.heap.size→w1.cell? ⟨b,o,none⟩=W.cell? ⟨b,o,none⟩)∧(∀ b o,b < W.heap.size→w1.frozen? ⟨b,o,none⟩=W.frozen? ⟨b,o,none⟩) :=
 ⟨fun b o h => hb.cell (p:=⟨b,o,none⟩) h,fun b o h => hb.frozen (p:=⟨b,o,none⟩) h⟩

theorem bl_alloc {w a:World} (h:Below w.heap.size w a) (o:Obj):Below w.heap.size w (a.alloc o):=h.alloc h.size o

theorem mpr2 {p q:Prop} (hp:p) (h:p→q):q:=h hp

theorem keep4 {w w':World} {B:Nat} {a b c d:Value} (hb:Below w.heap.size w w')
  (h:w.cell? ⟨B,0,none⟩=some a∧w.cell? ⟨B,1,none⟩=some b∧w.cell? ⟨B,2,none⟩=some c∧w.cell? ⟨B,3,none⟩=some d) :
  w'.cell? ⟨B,0,none⟩=some a∧w'.cell? ⟨B,1,none⟩=some b∧w'.cell? ⟨B,2,none⟩=some c∧w'.cell? ⟨B,3,none⟩=some d :=
 ⟨cell_later h.1 hb,cell_later h.2.1 hb,cell_later h.2.2.1 hb,cell_later h.2.2.2 hb⟩

theorem rvaput_yes (a b c:Int) (l:List UInt8) (hm:vaMay ⟨a,b,c,l⟩=true) (w:World) :
  Calls Tryz.prog 86 #[.agg #[.int .i64 a,.int .i64 b,.int .i64 c,.string ⟨l.toArray⟩]] w fun e w' => e=.returned (.tuple #[.string ⟨(vaBytes ⟨a,b,c,l⟩).toArray⟩,.bool true])∧Below w.heap.size w w':=by
 obtain⟨h1,h2,h3,h4,h5,h6,h7⟩:=vaMay_parts hm
 simp only at h1 h2 h3 h4 h5 h6 h7
 obtain⟨n,rfl⟩:=Int.eq_ofNat_of_zero_le h5
 have hl:l.length≤4294967296:=by omega
 have HM:=rmay_eq a b n l hl (hZq hm)
 have HM':=hZq HM
 have HP:=hZq (rput_any n (by omega))
 have HT:=hZq (rtext_any l hl)
 have hcv:=fun w B => run_convert_two (P:=Tryz.prog) w 118 5 9 Tryz.underlying118 Tryz.underlying5 Tryz.underlying9 B (u8of a.toNat) (u8of (b+128).toNat) a (b+128) (by rw [u8of_toNat (by omega)]; omega) (by rw [u8of_toNat (by omega)]; omega)
 have HV:Hid (vaBytes ⟨a,b,n,l⟩=[u8of a.toNat,u8of (b+128).toNat] ++ (vput n ++ (vput l.length ++ l))):=rfl
 have hz0:(0:Int)≤n:=by omega
 obtain⟨k0,k1,k2,k3⟩:=four_cells w (.int .i64 a) (.int .i64 b) (.int .i64 n) (.string ⟨l.toArray⟩) 53
 have HK0:=hZq k0
 have HK1:=hZq k1
 have HK2:=hZq k2
 have HK3:=hZq k3
 obtain⟨hd,hhd⟩ : ∃ hd,hd=[u8of a.toNat,u8of (b+128).toNat]:=⟨_,rfl⟩
 rw [← hhd] at hcv HV
 have hdl:hd.length≤2:=by rw [hhd]; simp
 have hvn:=vput_len_le n
 have hvl:=vput_len_le l.length
 clear hhd hm HM k0 k1 k2 k3 h5
 go_enter Tryz.func86,Tryz.ntmps86
 go_wp2_with fail
 refine (HM'.out _).mono ?_
 rintro e w1 ⟨rfl,hb1⟩
 have k0:=cell_later HK0.out hb1
 have k1:=cell_later HK1.out hb1
 have k2:=cell_later HK2.out hb1
 have k3:=cell_later HK3.out hb1
 have hsz1:w.heap.size < w1.heap.size:=by have:=hb1.size; simp at this; omega
 have HB1:Hid (Below w.heap.size w w1):=below2' ((Below.refl _ _).alloc (Nat.le_refl _) _) hb1
 clear HK0 HK1 HK2 HK3 hb1
 go_wp2_with fail
 have e1:IntKind.u8.wrap a=a:=by rw [IntKind.wrap_u8]; omega
 have e2:IntKind.i64.wrap (b+128)=b+128:=IntWalk.i64_in _ (by omega)
 have e3:IntKind.u8.wrap (b+128)=b+128:=by rw [IntKind.wrap_u8]; omega
 have e4:IntKind.u64.wrap (n:Int)=n:=by rw [IntKind.wrap_u64]; omega
 go_region_held (fun w' => w'.cell? ⟨w.heap.size,0,none⟩=some (.int .i64 a)∧w'.cell? ⟨w.heap.size,1,none⟩=some (.int .i64 b)∧w'.cell? ⟨w.heap.size,2,none⟩=some (.int .i64 n)∧w'.cell? ⟨w.heap.size,3,none⟩=some (.string ⟨l.toArray⟩))
  (first | (with_reducible exact keep4 (by assumption) (by assumption)) | go_keep)
  ((first
   | (go_at_call 84; refine (HP.out _).mono ?_; rintro e w2 ⟨rfl,hb2⟩; obtain⟨hc2,hf2⟩:=bcell hb2; (try (refine mpr2 (p:=w2.cell? ⟨w1.heap.size,0,none⟩=some (.int .u8 a)) ?_ ?_; (· (refine cell_later ?_ hb2; first | assumption | (simp; done))); intro q0)); (try (refine mpr2 (p:=w2.cell? ⟨w1.heap.size,1,none⟩=some (.int .u8 (b+128))) ?_ ?_; (· (refine cell_later ?_ hb2; first | assumption | (simp; done))); intro q1)))
   | (go_at_call 111; refine (HT.out _).mono ?_; rintro e w3 ⟨rfl,hb3⟩; obtain⟨hc3,hf3⟩:=bcell hb3; (try (refine mpr2 (p:=w3.cell? ⟨w1.heap.size,0,none⟩=some (.int .u8 a)) ?_ ?_; (· (refine cell_later ?_ hb3; first | assumption | (simp; done))); intro q0)); (try (refine mpr2 (p:=w3.cell? ⟨w1.heap.size,1,none⟩=some (.int .u8 (b+128))) ?_ ?_; (· (refine cell_later ?_ hb3; first | assumption | (simp; done))); intro q1)))))
 all_goals
  go_wp2_with fail
  go_ret2
  refine ⟨by rw [HV.out]; rfl,?_⟩
  repeat (first | exact HB1.out | (with_reducible refine below2' ?_ hb3) | (with_reducible refine below2' ?_ hb2) | (with_reducible refine bl_alloc ?_ _) | (with_reducible refine Below.drew ?_))

theorem vaput_no (a b c:Int) (l:List UInt8) (hl:l.length≤4294967296) (hm:vaMay ⟨a,b,c,l⟩=false) (w:World) :
  Calls Tryz.prog 155 #[.agg #[.int .i64 a,.int .i64 b,.int .i64 c,.string ⟨l.toArray⟩]] w fun e w' => e=.returned (.tuple #[.string ⟨([]:List UInt8).toArray⟩,.bool false])∧Below w.heap.size w w':=by
 have HM':=hZq (may_eq a b c l hl (hZq hm))
 clear hm
 go_enter Tryz.func155,Tryz.ntmps155
 go_wp2_with fail
 refine (HM'.out _).mono ?_
 rintro e w1 ⟨rfl,hb1⟩
 go_wp2_with fail
 go_ret2
 exact⟨rfl,below2' ((Below.refl _ _).alloc (Nat.le_refl _) _) hb1⟩

theorem rvaput_no (a b c:Int) (l:List UInt8) (hl:l.length≤4294967296) (hm:vaMay ⟨a,b,c,l⟩=false) (w:World) :
  Calls Tryz.prog 86 #[.agg #[.int .i64 a,.int .i64 b,.int .i64 c,.string ⟨l.toArray⟩]] w fun e w' => e=.returned (.tuple #[.string ⟨([]:List UInt8).toArray⟩,.bool false])∧Below w.heap.size w w':=by
 have HM':=hZq (rmay_eq a b c l hl (hZq hm))
 clear hm
 go_enter Tryz.func86,Tryz.ntmps86
 go_wp2_with fail
 refine (HM'.out _).mono ?_
 rintro e w1 ⟨rfl,hb1⟩
 go_wp2_with fail
 go_ret2
 exact⟨rfl,below2' ((Below.refl _ _).alloc (Nat.le_refl _) _) hb1⟩

theorem vaput_any (a b c:Int) (l:List UInt8) (hl:l.length≤4294967296) {t:List UInt8} {r:Bool} (ht:Hid (vaPut ⟨a,b,c,l⟩=t)) (hr:Hid (vaMay ⟨a,b,c,l⟩=r)) (w:World) :
  Calls Tryz.prog 155 #[.agg #[.int .i64 a,.int .i64 b,.int .i64 c,.string ⟨l.toArray⟩]] w fun e w' => e=.returned (.tuple #[.string ⟨t.toArray⟩,.bool r])∧Below w.heap.size w w':=by
 have h1:=ht.out
 have h2:=hr.out
 unfold vaPut at h1
 cases r with
 | true => rw [if_pos h2] at h1; rw [← h1]; exact vaput_yes a b c l h2 w
 | false => rw [if_neg (by rw [h2]; decide)] at h1; rw [← h1]; exact vaput_no a b c l hl h2 w

theorem rvaput_any (a b c:Int) (l:List UInt8) (hl:l.length≤4294967296) {t:List UInt8} {r:Bool} (ht:Hid (vaPut ⟨a,b,c,l⟩=t)) (hr:Hid (vaMay ⟨a,b,c,l⟩=r)) (w:World) :
  Calls Tryz.prog 86 #[.agg #[.int .i64 a,.int .i64 b,.int .i64 c,.string ⟨l.toArray⟩]] w fun e w' => e=.returned (.tuple #[.string ⟨t.toArray⟩,.bool r])∧Below w.heap.size w w':=by
 have h1:=ht.out
 have h2:=hr.out
 unfold vaPut at h1
 cases r with
 | true => rw [if_pos h2] at h1; rw [← h1]; exact rvaput_yes a b c l h2 w
 | false => rw [if_neg (by rw [h2]; decide)] at h1; rw [← h1]; exact rvaput_no a b c l hl h2 w
end
section
open Go.RowKit

def tripleV (a b c:Int) (t:List UInt8) (f er:Nat):Value:=.tuple #[.agg #[.int .i64 a,.int .i64 b,.int .i64 c,.string ⟨t.toArray⟩],.int .i64 f,.int .i64 er]

def valV (v:Val):Value:=.agg #[.int .i64 v.sh,.int .i64 v.pr,.int .i64 v.si,.string ⟨v.st.toArray⟩]

def tripleW (r:Val × Nat × Nat):Value:=.tuple #[valV r.1,.int .i64 r.2.1,.int .i64 r.2.2]

theorem take_eq32 (l:List UInt8) (hl:l.length≤4294967296) (p:Nat) (w:World) {t:List UInt8} {f er:Nat} (h:Hid (vtake l p 32=(t,f,er))) :
  Calls Tryz.prog 170 #[.string ⟨l.toArray⟩,.int .i64 p,.int .i64 32] w fun e w' => e=.returned (.tuple #[.string ⟨t.toArray⟩,.int .i64 f,.int .i64 er])∧w=w':=take_eq l hl p 32 (by decide) w h

theorem wrap_high (n:Nat) (h:9223372036854775808≤n) (h':n < 18446744073709551616):IntKind.i64.wrap (n:Int)=(n:Int) - 18446744073709551616:=by
 rw [IntKind.wrap_i64]
 omega

def set4 (w:World) (B:Nat) (a b c d:Value):World:=(((w.setCell ⟨B,0,none⟩ a).setCell ⟨B,1,none⟩ b).setCell ⟨B,2,none⟩ c).setCell ⟨B,3,none⟩ d

theorem four_set (w:World) (B:Nat) (a b c d a' b' c' d':Value) (h0:w.cell? ⟨B,0,none⟩=some a') (h1:w.cell? ⟨B,1,none⟩=some b') (h2:w.cell? ⟨B,2,none⟩=some c') (h3:w.cell? ⟨B,3,none⟩=some d') :
  (set4 w B a b c d).cell? ⟨B,0,none⟩=some a∧(set4 w B a b c d).cell? ⟨B,1,none⟩=some b∧(set4 w B a b c d).cell? ⟨B,2,none⟩=some c∧(set4 w B a b c d).cell? ⟨B,3,none⟩=some d:=by
 unfold set4
 have o1:(w.setCell ⟨B,0,none⟩ a).cell? ⟨B,1,none⟩=some b':=by rw [World.cell?_setCell_other _ _ _ _ (by simp)]; exact h1
 have o2:((w.setCell ⟨B,0,none⟩ a).setCell ⟨B,1,none⟩ b).cell? ⟨B,2,none⟩=some c':=by rw [World.cell?_setCell_other _ _ _ _ (by simp),World.cell?_setCell_other _ _ _ _ (by simp)]; exact h2
 have o3:(((w.setCell ⟨B,0,none⟩ a).setCell ⟨B,1,none⟩ b).setCell ⟨B,2,none⟩ c).cell? ⟨B,3,none⟩=some d':=by rw [World.cell?_setCell_other _ _ _ _ (by simp),World.cell?_setCell_other _ _ _ _ (by simp),World.cell?_setCell_other _ _ _ _ (by simp)]; exact h3
 refine ⟨?_,?_,?_,?_⟩
 ·rw [World.cell?_setCell_other _ _ _ _ (by simp),World.cell?_setCell_other _ _ _ _ (by simp),World.cell?_setCell_other _ _ _ _ (by simp)]
  exact World.cell?_setCell_same _ _ _ h0
 ·rw [World.cell?_setCell_other _ _ _ _ (by simp),World.cell?_setCell_other _ _ _ _ (by simp)]
  exact World.cell?_setCell_same _ _ _ o1
 ·rw [World.cell?_setCell_other _ _ _ _ (by simp)]
  exact World.cell?_setCell_same _ _ _ o2
 ·exact World.cell?_setCell_same _ _ _ o3

theorem set4_below {w w1:World} (h:Below w.heap.size w w1) (B:Nat) (hB:w.heap.size≤B) (a b c d:Value):Below w.heap.size w (set4 w1 B a b c d) :=
 (((h.setCell hB _).setCell hB _).setCell hB _).setCell hB _

theorem two_blocks {w w1:World} {a b c d x y z u:Value} {t1 t2:TypeId}
  (hb:Below ((w.alloc (.cells #[a,b,c,d] t1)).alloc (.cells #[x,y,z,u] t2)).drew.heap.size ((w.alloc (.cells #[a,b,c,d] t1)).alloc (.cells #[x,y,z,u] t2)).drew w1) :
  (w1.cell? ⟨w.heap.size,0,none⟩=some a∧w1.cell? ⟨w.heap.size,1,none⟩=some b∧w1.cell? ⟨w.heap.size,2,none⟩=some c∧w1.cell? ⟨w.heap.size,3,none⟩=some d) ∧
  (w1.frozen? ⟨w.heap.size,0,none⟩=false∧w1.frozen? ⟨w.heap.size,1,none⟩=false∧w1.frozen? ⟨w.heap.size,2,none⟩=false∧w1.frozen? ⟨w.heap.size,3,none⟩=false) ∧
  (w1.cell? ⟨w.heap.size+1,0,none⟩=some x∧w1.cell? ⟨w.heap.size+1,1,none⟩=some y∧w1.cell? ⟨w.heap.size+1,2,none⟩=some z∧w1.cell? ⟨w.heap.size+1,3,none⟩=some u)∧Below w.heap.size w w1:=by
 have hA:∀ o,w1.cell? ⟨w.heap.size,o,none⟩=#[a,b,c,d][o]?:=fun o => by
  rw [hb.cell (p:=⟨w.heap.size,o,none⟩) (by show w.heap.size < _; simp; omega)]
  show ((w.alloc (.cells #[a,b,c,d] t1)).alloc (.cells #[x,y,z,u] t2)).cell? _=_
  rw [World.cell?_alloc_lt _ _ _ (by show w.heap.size < _; simp),World.cell?_alloc_at _ _ _ _ rfl]
 have hF:∀ o,w1.frozen? ⟨w.heap.size,o,none⟩=false:=fun o => by
  rw [hb.frozen (p:=⟨w.heap.size,o,none⟩) (by show w.heap.size < _; simp; omega)]
  show ((w.alloc (.cells #[a,b,c,d] t1)).alloc (.cells #[x,y,z,u] t2)).frozen? _=_
  simp
 have hC:∀ o,w1.cell? ⟨w.heap.size+1,o,none⟩=#[x,y,z,u][o]?:=fun o => by
  rw [hb.cell (p:=⟨w.heap.size+1,o,none⟩) (by show w.heap.size+1 < _; simp)]
  show ((w.alloc (.cells #[a,b,c,d] t1)).alloc (.cells #[x,y,z,u] t2)).cell? _=_
  rw [World.cell?_alloc_at _ _ _ _ (by simp)]
 exact⟨⟨hA 0,hA 1,hA 2,hA 3⟩,⟨hF 0,hF 1,hF 2,hF 3⟩,⟨hC 0,hC 1,hC 2,hC 3⟩,below2' (((Below.refl _ _).alloc (Nat.le_refl _) _).alloc (by simp) _).drew hb⟩

theorem vatake_out (l:List UInt8) (_hl:l.length≤4294967296) (p:Int) (hp:p < 0∨(l.length:Int) < p) (w:World) :
  Calls Tryz.prog 157 #[.string ⟨l.toArray⟩,.int .i64 p] w fun e w' => e=.returned (tripleW (vaTake l p))∧Below w.heap.size w w':=by
 have HR:Hid (vaTake l p=(Val.zero,0,1)):=by show _=_; unfold vaTake; rw [if_pos hp]
 rcases hp with h | h
 all_goals
  go_enter Tryz.func157,Tryz.ntmps157
  go_wp2_with fail
  exact bodyPost_ret (v:=tripleW (Val.zero,0,1)) (by simp [results,Tryz.results157,go_sem,tripleW,valV,Val.zero]) rfl ⟨by rw [HR.out],(Below.refl _ _).alloc (Nat.le_refl _) _⟩

theorem vatake_cut (l:List UInt8) (_hl:l.length≤4294967296) (q:Nat) (hq:q≤l.length) (h2:l.length < q+2) (w:World) :
  Calls Tryz.prog 157 #[.string ⟨l.toArray⟩,.int .i64 q] w fun e w' => e=.returned (tripleW (vaTake l q))∧Below w.heap.size w w':=by
 have HR:Hid (vaTake l q=(Val.zero,0,2)):=by show _=_; unfold vaTake; rw [if_neg (by omega),if_pos (by omega)]
 go_enter Tryz.func157,Tryz.ntmps157
 go_wp2_with fail
 exact bodyPost_ret (v:=tripleW (Val.zero,0,2)) (by simp [results,Tryz.results157,go_sem,tripleW,valV,Val.zero]) rfl ⟨by rw [HR.out],(Below.refl _ _).alloc (Nat.le_refl _) _⟩

theorem vatake_get (l:List UInt8) (hl:l.length≤4294967296) (q:Nat) (h2:q+2≤l.length) {n f er:Nat} (hg:Hid (vget l ((q:Int)+2)=(n,f,er))) (he:er ≠ 0) (w:World) :
  Calls Tryz.prog 157 #[.string ⟨l.toArray⟩,.int .i64 q] w fun e w' => e=.returned (tripleW (vaTake l q))∧Below w.heap.size w w':=by
 have HR:Hid (vaTake l q=(Val.zero,0,er)):=by show _=_; unfold vaTake; rw [if_neg (by omega),if_neg (by omega),hg.out,if_pos he]
 have t1:((er:Int) != 0)=true:=by simp; omega
 clear he
 go_enter Tryz.func157,Tryz.ntmps157
 go_wp2_with fail
 refine (get_eq l hl _ _ hg).mono ?_
 rintro e w' ⟨rfl,rfl⟩
 go_wp2_with fail
 exact bodyPost_ret (v:=tripleW (Val.zero,0,er)) (by simp [results,Tryz.results157,go_sem,tripleW,valV,Val.zero]) rfl ⟨by rw [HR.out],(Below.refl _ _).alloc (Nat.le_refl _) _⟩

theorem vatake_text (l:List UInt8) (hl:l.length≤4294967296) (q:Nat) (h2:q+2≤l.length) {n f:Nat} (hg:Hid (vget l ((q:Int)+2)=(n,f,0))) {t:List UInt8} {k er:Nat} (ht:Hid (vtake l f 32=(t,k,er))) (he:er ≠ 0) (w:World) :
  Calls Tryz.prog 157 #[.string ⟨l.toArray⟩,.int .i64 q] w fun e w' => e=.returned (tripleW (vaTake l q))∧Below w.heap.size w w':=by
 have HR:Hid (vaTake l q=(Val.zero,0,er)):=by show _=_; unfold vaTake; rw [if_neg (by omega),if_neg (by omega),hg.out]; simp only [ne_eq,not_true_eq_false,if_false]; rw [ht.out,if_pos he]
 have t1:((er:Int) != 0)=true:=by simp; omega
 clear he
 go_enter Tryz.func157,Tryz.ntmps157
 go_wp2_with fail
 refine (get_eq l hl _ _ hg).mono ?_
 rintro e w' ⟨rfl,rfl⟩
 go_wp2_with fail
 refine (take_eq32 l hl _ _ ht).mono ?_
 rintro e w' ⟨rfl,rfl⟩
 go_wp2_with fail
 exact bodyPost_ret (v:=tripleW (Val.zero,0,er)) (by simp [results,Tryz.results157,go_sem,tripleW,valV,Val.zero]) rfl ⟨by rw [HR.out],(Below.refl _ _).alloc (Nat.le_refl _) _⟩

theorem vatake_end (l:List UInt8) (hl:l.length≤4294967296) (q:Nat) (h2:q+2≤l.length) {n f:Nat} (hg:Hid (vget l ((q:Int)+2)=(n,f,0))) {t:List UInt8} {k:Nat} (ht:Hid (vtake l f 32=(t,k,0))) (w:World) :
  Calls Tryz.prog 157 #[.string ⟨l.toArray⟩,.int .i64 q] w fun e w' => e=.returned (tripleW (vaTake l q))∧Below w.heap.size w w':=by
 have hn:=(vget_facts hg.out).1
 have hq1:q < (⟨l.toArray⟩ : ByteArray).size:=by rw [size_bytes]; omega
 have hq2:q+1 < (⟨l.toArray⟩ : ByteArray).size:=by rw [size_bytes]; omega
 obtain⟨x,hx⟩ : ∃ x:UInt8,(⟨l.toArray⟩ : ByteArray)[q]'hq1=x:=⟨_,rfl⟩
 obtain⟨y,hy⟩ : ∃ y:UInt8,(⟨l.toArray⟩ : ByteArray)[q+1]'hq2=y:=⟨_,rfl⟩
 have hx256:=x.toNat_lt
 have hy256:=y.toNat_lt
 have htl:=(vtake_bytes ht.out).2.2.2
 have HX:Hid (l.getD q 0=x):=by show _=_; rw [← hx,List.getD,bytes_at l q hq1]; rfl
 have HY:Hid (l.getD (q+1) 0=y):=by show _=_; rw [← hy,List.getD,bytes_at l (q+1) hq2]; rfl
 have HTw:Hid (vaTwo l q n t=⟨x.toNat,(y.toNat:Int) - 128,n,t⟩):=by show _=_; unfold vaTwo; simp only [Int.toNat_natCast]; rw [HX.out,HY.out]
 have HE:Hid (vaTake l q=if vaMay ⟨x.toNat,(y.toNat:Int) - 128,n,t⟩=false then (Val.zero,0,3) else (⟨x.toNat,(y.toNat:Int) - 128,n,t⟩,k,0)):=by
  show _=_
  unfold vaTake; rw [if_neg (by omega),if_neg (by omega),hg.out]; simp only [ne_eq,not_true_eq_false,if_false]; rw [ht.out]; simp only [not_true_eq_false,if_false]; rw [HTw.out]
 by_cases hs:n < 9223372036854775808
 ·have e1:IntKind.i64.wrap (n:Int)=n:=IntWalk.i64_in _ (by omega)
  have e2:IntKind.i64.wrap ((y.toNat:Int) - 128)=(y.toNat:Int) - 128:=IntWalk.i64_in _ (by omega)
  have e3:IntKind.i64.wrap ((q:Int)+1)=(q:Int)+1:=IntWalk.i64_in _ (by omega)
  have e4:((q:Int)+1).toNat=q+1:=by omega
  cases hm:vaMay ⟨x.toNat,(y.toNat:Int) - 128,n,t⟩ with
  | false =>
   have HR:=HE.out
   rw [if_pos hm] at HR
   have HR':=hZq HR
   have HM:=hZq (may_eq x.toNat ((y.toNat:Int)+-128) n t (by omega) (hZq (show vaMay ⟨x.toNat,(y.toNat:Int)+-128,n,t⟩=false from hm)))
   clear HR hm HE
   go_enter Tryz.func157,Tryz.ntmps157
   go_wp2_with fail
   refine (get_eq l hl _ _ hg).mono ?_
   rintro e w' ⟨rfl,rfl⟩
   go_wp2_with fail
   refine (take_eq32 l hl _ _ ht).mono ?_
   rintro e w' ⟨rfl,rfl⟩
   go_wp2_with fail
   go_region
   go_wp2_with fail
   refine (HM.out _).mono ?_
   rintro e w1 ⟨rfl,hb1⟩
   obtain⟨⟨q0,q1,q2,q3⟩,⟨f0,f1,f2,f3⟩,⟨s0,s1,s2,s3⟩,hB1⟩:=two_blocks hb1
   have HB1:=hZq hB1
   clear hb1 hB1
   go_wp2_with fail
   obtain⟨r0,r1,r2,r3⟩:=four_set w1 w.heap.size (.int .i64 0) (.int .i64 0) (.int .i64 0) (.string ⟨#[]⟩) _ _ _ _ q0 q1 q2 q3
   unfold set4 at r0 r1 r2 r3
   exact bodyPost_ret (v:=tripleW (Val.zero,0,3)) (by simp [results,Tryz.results157,go_sem,tripleW,valV,Val.zero,r0,r1,r2,r3]) rfl ⟨by rw [HR'.out],set4_below HB1.out _ (Nat.le_refl _) _ _ _ _⟩
  | true =>
   have HR:=HE.out
   rw [if_neg (by rw [hm]; decide)] at HR
   have HR':=hZq HR
   have HM:=hZq (may_eq x.toNat ((y.toNat:Int)+-128) n t (by omega) (hZq (show vaMay ⟨x.toNat,(y.toNat:Int)+-128,n,t⟩=true from hm)))
   clear HR hm HE
   go_enter Tryz.func157,Tryz.ntmps157
   go_wp2_with fail
   refine (get_eq l hl _ _ hg).mono ?_
   rintro e w' ⟨rfl,rfl⟩
   go_wp2_with fail
   refine (take_eq32 l hl _ _ ht).mono ?_
   rintro e w' ⟨rfl,rfl⟩
   go_wp2_with fail
   go_region
   go_wp2_with fail
   refine (HM.out _).mono ?_
   rintro e w1 ⟨rfl,hb1⟩
   obtain⟨⟨q0,q1,q2,q3⟩,⟨f0,f1,f2,f3⟩,⟨s0,s1,s2,s3⟩,hB1⟩:=two_blocks hb1
   have HB1:=hZq hB1
   clear hb1 hB1
   go_wp2_with fail
   obtain⟨r0,r1,r2,r3⟩:=four_set w1 w.heap.size (.int .i64 x.toNat) (.int .i64 ((y.toNat:Int)+-128)) (.int .i64 n) (.string ⟨t.toArray⟩) _ _ _ _ q0 q1 q2 q3
   unfold set4 at r0 r1 r2 r3
   exact bodyPost_ret (v:=tripleW (⟨x.toNat,(y.toNat:Int)+-128,n,t⟩,k,0)) (by simp [results,Tryz.results157,go_sem,tripleW,valV,r0,r1,r2,r3]) rfl ⟨by rw [HR'.out]; rfl,set4_below HB1.out _ (Nat.le_refl _) _ _ _ _⟩
 ·have e2:IntKind.i64.wrap ((y.toNat:Int) - 128)=(y.toNat:Int) - 128:=IntWalk.i64_in _ (by omega)
  have e3:IntKind.i64.wrap ((q:Int)+1)=(q:Int)+1:=IntWalk.i64_in _ (by omega)
  have e4:((q:Int)+1).toNat=q+1:=by omega
  obtain⟨c,hc,hneg⟩ : ∃ c,IntKind.i64.wrap (n:Int)=c∧c < 0:=⟨_,rfl,by
   have:IntKind.i64.wrap (n:Int)=(n:Int) - 18446744073709551616:=wrap_high n (by omega) hn
   rw [this]; omega⟩
  have hm0:vaMay ⟨x.toNat,(y.toNat:Int) - 128,n,t⟩=false:=by
   unfold vaMay
   rcases numsOk_cases (x.toNat:Int) ((y.toNat:Int) - 128) (n:Int) with ⟨_,h⟩ | ⟨h,_⟩
   ·omega
   ·simp only; rw [h]; rfl
  have hm:vaMay ⟨x.toNat,(y.toNat:Int)+-128,c,t⟩=false:=by
   unfold vaMay
   rcases numsOk_cases (x.toNat:Int) ((y.toNat:Int)+-128) c with ⟨_,h⟩ | ⟨h,_⟩
   ·omega
   ·simp only; rw [h]; rfl
  have HR:=HE.out
  rw [if_pos hm0] at HR
  have HR':=hZq HR
  have HM:=hZq (may_eq x.toNat ((y.toNat:Int)+-128) c t (by omega) (hZq hm))
  clear HR hm hm0 HE hs
  go_enter Tryz.func157,Tryz.ntmps157
  go_wp2_with fail
  refine (get_eq l hl _ _ hg).mono ?_
  rintro e w' ⟨rfl,rfl⟩
  go_wp2_with fail
  refine (take_eq32 l hl _ _ ht).mono ?_
  rintro e w' ⟨rfl,rfl⟩
  go_wp2_with fail
  go_region
  go_wp2_with fail
  refine (HM.out _).mono ?_
  rintro e w1 ⟨rfl,hb1⟩
  obtain⟨⟨q0,q1,q2,q3⟩,⟨f0,f1,f2,f3⟩,⟨s0,s1,s2,s3⟩,hB1⟩:=two_blocks hb1
  have HB1:=hZq hB1
  clear hb1 hB1
  go_wp2_with fail
  obtain⟨r0,r1,r2,r3⟩:=four_set w1 w.heap.size (.int .i64 0) (.int .i64 0) (.int .i64 0) (.string ⟨#[]⟩) _ _ _ _ q0 q1 q2 q3
  unfold set4 at r0 r1 r2 r3
  exact bodyPost_ret (v:=tripleW (Val.zero,0,3)) (by simp [results,Tryz.results157,go_sem,tripleW,valV,Val.zero,r0,r1,r2,r3]) rfl ⟨by rw [HR'.out],set4_below HB1.out _ (Nat.le_refl _) _ _ _ _⟩

theorem vatake_any (l:List UInt8) (hl:l.length≤4294967296) (p:Int) (w:World) :
  Calls Tryz.prog 157 #[.string ⟨l.toArray⟩,.int .i64 p] w fun e w' => e=.returned (tripleW (vaTake l p))∧Below w.heap.size w w':=by
 by_cases hp:p < 0∨(l.length:Int) < p
 ·exact vatake_out l hl p hp w
 ·obtain⟨q,rfl⟩:=Int.eq_ofNat_of_zero_le (show 0≤p by omega)
  by_cases h2:l.length < q+2
  ·exact vatake_cut l hl q (by omega) h2 w
  ·obtain⟨n,f,er,hg⟩ : ∃ n f er,vget l ((q:Int)+2)=(n,f,er):=⟨_,_,_,rfl⟩
   by_cases he:er=0
   ·subst he
    obtain⟨t,k,es,ht⟩ : ∃ t k es,vtake l f 32=(t,k,es):=⟨_,_,_,rfl⟩
    by_cases hes:es=0
    ·subst hes
     exact vatake_end l hl q (by omega) (hZq hg) (hZq ht) w
    ·exact vatake_text l hl q (by omega) (hZq hg) (hZq ht) hes w
   ·exact vatake_get l hl q (by omega) (hZq hg) he w

theorem vatake_eq (l:List UInt8) (hl:l.length≤4294967296) (p:Int) {a b c:Int} {t:List UInt8} {f er:Nat} (h:Hid (vaTake l p=(⟨a,b,c,t⟩,f,er))) (w:World) :
  Calls Tryz.prog 157 #[.string ⟨l.toArray⟩,.int .i64 p] w fun e w' => e=.returned (.tuple #[.agg #[.int .i64 a,.int .i64 b,.int .i64 c,.string ⟨t.toArray⟩],.int .i64 f,.int .i64 er])∧Below w.heap.size w w':=by
 have:=vatake_any l hl p w
 rwa [h.out] at this
end
section
open Go.RowKit

theorem rtake_eq32 (l:List UInt8) (hl:l.length≤4294967296) (p:Nat) (w:World) {t:List UInt8} {f er:Nat} (h:Hid (vtake l p 32=(t,f,er))) :
  Calls Tryz.prog 143 #[.string ⟨l.toArray⟩,.int .i64 p,.int .i64 32] w fun e w' => e=.returned (.tuple #[.string ⟨t.toArray⟩,.int .i64 f,.int .i64 er])∧w=w':=rtake_eq l hl p 32 (by decide) w h

theorem rvatake_out (l:List UInt8) (_hl:l.length≤4294967296) (p:Int) (hp:p < 0∨(l.length:Int) < p) (w:World) :
  Calls Tryz.prog 108 #[.string ⟨l.toArray⟩,.int .i64 p] w fun e w' => e=.returned (tripleW (vaTake l p))∧Below w.heap.size w w':=by
 have HR:Hid (vaTake l p=(Val.zero,0,1)):=by show _=_; unfold vaTake; rw [if_pos hp]
 rcases hp with h | h
 all_goals
  go_enter Tryz.func108,Tryz.ntmps108
  go_wp2_with fail
  exact bodyPost_ret (v:=tripleW (Val.zero,0,1)) (by simp [results,Tryz.results108,go_sem,tripleW,valV,Val.zero]) rfl ⟨by rw [HR.out],(Below.refl _ _).alloc (Nat.le_refl _) _⟩

theorem rvatake_cut (l:List UInt8) (_hl:l.length≤4294967296) (q:Nat) (hq:q≤l.length) (h2:l.length < q+2) (w:World) :
  Calls Tryz.prog 108 #[.string ⟨l.toArray⟩,.int .i64 q] w fun e w' => e=.returned (tripleW (vaTake l q))∧Below w.heap.size w w':=by
 have HR:Hid (vaTake l q=(Val.zero,0,2)):=by show _=_; unfold vaTake; rw [if_neg (by omega),if_pos (by omega)]
 go_enter Tryz.func108,Tryz.ntmps108
 go_wp2_with fail
 exact bodyPost_ret (v:=tripleW (Val.zero,0,2)) (by simp [results,Tryz.results108,go_sem,tripleW,valV,Val.zero]) rfl ⟨by rw [HR.out],(Below.refl _ _).alloc (Nat.le_refl _) _⟩

theorem rvatake_get (l:List UInt8) (hl:l.length≤4294967296) (q:Nat) (h2:q+2≤l.length) {n f er:Nat} (hg:Hid (vget l ((q:Int)+2)=(n,f,er))) (he:er ≠ 0) (w:World) :
  Calls Tryz.prog 108 #[.string ⟨l.toArray⟩,.int .i64 q] w fun e w' => e=.returned (tripleW (vaTake l q))∧Below w.heap.size w w':=by
 have HR:Hid (vaTake l q=(Val.zero,0,er)):=by show _=_; unfold vaTake; rw [if_neg (by omega),if_neg (by omega),hg.out,if_pos he]
 have t1:((er:Int) != 0)=true:=by simp; omega
 clear he
 go_enter Tryz.func108,Tryz.ntmps108
 go_wp2_with fail
 refine (rget_eq l hl _ _ hg).mono ?_
 rintro e w' ⟨rfl,rfl⟩
 go_wp2_with fail
 exact bodyPost_ret (v:=tripleW (Val.zero,0,er)) (by simp [results,Tryz.results108,go_sem,tripleW,valV,Val.zero]) rfl ⟨by rw [HR.out],(Below.refl _ _).alloc (Nat.le_refl _) _⟩

theorem rvatake_text (l:List UInt8) (hl:l.length≤4294967296) (q:Nat) (h2:q+2≤l.length) {n f:Nat} (hg:Hid (vget l ((q:Int)+2)=(n,f,0))) {t:List UInt8} {k er:Nat} (ht:Hid (vtake l f 32=(t,k,er))) (he:er ≠ 0) (w:World) :
  Calls Tryz.prog 108 #[.string ⟨l.toArray⟩,.int .i64 q] w fun e w' => e=.returned (tripleW (vaTake l q))∧Below w.heap.size w w':=by
 have HR:Hid (vaTake l q=(Val.zero,0,er)):=by show _=_; unfold vaTake; rw [if_neg (by omega),if_neg (by omega),hg.out]; simp only [ne_eq,not_true_eq_false,if_false]; rw [ht.out,if_pos he]
 have t1:((er:Int) != 0)=true:=by simp; omega
 clear he
 go_enter Tryz.func108,Tryz.ntmps108
 go_wp2_with fail
 refine (rget_eq l hl _ _ hg).mono ?_
 rintro e w' ⟨rfl,rfl⟩
 go_wp2_with fail
 refine (rtake_eq32 l hl _ _ ht).mono ?_
 rintro e w' ⟨rfl,rfl⟩
 go_wp2_with fail
 exact bodyPost_ret (v:=tripleW (Val.zero,0,er)) (by simp [results,Tryz.results108,go_sem,tripleW,valV,Val.zero]) rfl ⟨by rw [HR.out],(Below.refl _ _).alloc (Nat.le_refl _) _⟩

theorem rvatake_end (l:List UInt8) (hl:l.length≤4294967296) (q:Nat) (h2:q+2≤l.length) {n f:Nat} (hg:Hid (vget l ((q:Int)+2)=(n,f,0))) {t:List UInt8} {k:Nat} (ht:Hid (vtake l f 32=(t,k,0))) (w:World) :
  Calls Tryz.prog 108 #[.string ⟨l.toArray⟩,.int .i64 q] w fun e w' => e=.returned (tripleW (vaTake l q))∧Below w.heap.size w w':=by
 have hn:=(vget_facts hg.out).1
 have hq1:q < (⟨l.toArray⟩ : ByteArray).size:=by rw [size_bytes]; omega
 have hq2:q+1 < (⟨l.toArray⟩ : ByteArray).size:=by rw [size_bytes]; omega
 obtain⟨x,hx⟩ : ∃ x:UInt8,(⟨l.toArray⟩ : ByteArray)[q]'hq1=x:=⟨_,rfl⟩
 obtain⟨y,hy⟩ : ∃ y:UInt8,(⟨l.toArray⟩ : ByteArray)[q+1]'hq2=y:=⟨_,rfl⟩
 have hx256:=x.toNat_lt
 have hy256:=y.toNat_lt
 have htl:=(vtake_bytes ht.out).2.2.2
 have HX:Hid (l.getD q 0=x):=by show _=_; rw [← hx,List.getD,bytes_at l q hq1]; rfl
 have HY:Hid (l.getD (q+1) 0=y):=by show _=_; rw [← hy,List.getD,bytes_at l (q+1) hq2]; rfl
 have HTw:Hid (vaTwo l q n t=⟨x.toNat,(y.toNat:Int) - 128,n,t⟩):=by show _=_; unfold vaTwo; simp only [Int.toNat_natCast]; rw [HX.out,HY.out]
 have HE:Hid (vaTake l q=if vaMay ⟨x.toNat,(y.toNat:Int) - 128,n,t⟩=false then (Val.zero,0,3) else (⟨x.toNat,(y.toNat:Int) - 128,n,t⟩,k,0)):=by
  show _=_
  unfold vaTake; rw [if_neg (by omega),if_neg (by omega),hg.out]; simp only [ne_eq,not_true_eq_false,if_false]; rw [ht.out]; simp only [not_true_eq_false,if_false]; rw [HTw.out]
 by_cases hs:n≤1099511627776
 ·have e1:IntKind.i64.wrap (n:Int)=n:=IntWalk.i64_in _ (by omega)
  have e2:IntKind.i64.wrap ((y.toNat:Int) - 128)=(y.toNat:Int) - 128:=IntWalk.i64_in _ (by omega)
  have e3:IntKind.i64.wrap ((q:Int)+1)=(q:Int)+1:=IntWalk.i64_in _ (by omega)
  have e4:((q:Int)+1).toNat=q+1:=by omega
  cases hm:vaMay ⟨x.toNat,(y.toNat:Int) - 128,n,t⟩ with
  | false =>
   have HR:=HE.out
   rw [if_pos hm] at HR
   have HR':=hZq HR
   have HM:=hZq (rmay_eq x.toNat ((y.toNat:Int) - 128) n t (by omega) (hZq (show vaMay ⟨x.toNat,(y.toNat:Int) - 128,n,t⟩=false from hm)))
   clear HR hm HE
   go_enter Tryz.func108,Tryz.ntmps108
   go_wp2_with fail
   refine (rget_eq l hl _ _ hg).mono ?_
   rintro e w' ⟨rfl,rfl⟩
   go_wp2_with fail
   refine (rtake_eq32 l hl _ _ ht).mono ?_
   rintro e w' ⟨rfl,rfl⟩
   go_wp2_with fail
   go_region
   go_wp2_with fail
   refine (HM.out _).mono ?_
   rintro e w1 ⟨rfl,hb1⟩
   obtain⟨⟨q0,q1,q2,q3⟩,⟨f0,f1,f2,f3⟩,⟨s0,s1,s2,s3⟩,hB1⟩:=two_blocks hb1
   have HB1:=hZq hB1
   clear hb1 hB1
   go_wp2_with fail
   obtain⟨r0,r1,r2,r3⟩:=four_set w1 w.heap.size (.int .i64 0) (.int .i64 0) (.int .i64 0) (.string ⟨#[]⟩) _ _ _ _ q0 q1 q2 q3
   unfold set4 at r0 r1 r2 r3
   exact bodyPost_ret (v:=tripleW (Val.zero,0,3)) (by simp [results,Tryz.results108,go_sem,tripleW,valV,Val.zero,r0,r1,r2,r3]) rfl ⟨by rw [HR'.out],set4_below HB1.out _ (Nat.le_refl _) _ _ _ _⟩
  | true =>
   have HR:=HE.out
   rw [if_neg (by rw [hm]; decide)] at HR
   have HR':=hZq HR
   have HM:=hZq (rmay_eq x.toNat ((y.toNat:Int) - 128) n t (by omega) (hZq (show vaMay ⟨x.toNat,(y.toNat:Int) - 128,n,t⟩=true from hm)))
   clear HR hm HE
   go_enter Tryz.func108,Tryz.ntmps108
   go_wp2_with fail
   refine (rget_eq l hl _ _ hg).mono ?_
   rintro e w' ⟨rfl,rfl⟩
   go_wp2_with fail
   refine (rtake_eq32 l hl _ _ ht).mono ?_
   rintro e w' ⟨rfl,rfl⟩
   go_wp2_with fail
   go_region
   go_wp2_with fail
   refine (HM.out _).mono ?_
   rintro e w1 ⟨rfl,hb1⟩
   obtain⟨⟨q0,q1,q2,q3⟩,⟨f0,f1,f2,f3⟩,⟨s0,s1,s2,s3⟩,hB1⟩:=two_blocks hb1
   have HB1:=hZq hB1
   clear hb1 hB1
   go_wp2_with fail
   obtain⟨r0,r1,r2,r3⟩:=four_set w1 w.heap.size (.int .i64 x.toNat) (.int .i64 ((y.toNat:Int) - 128)) (.int .i64 n) (.string ⟨t.toArray⟩) _ _ _ _ q0 q1 q2 q3
   unfold set4 at r0 r1 r2 r3
   exact bodyPost_ret (v:=tripleW (⟨x.toNat,(y.toNat:Int) - 128,n,t⟩,k,0)) (by simp [results,Tryz.results108,go_sem,tripleW,valV,r0,r1,r2,r3]) rfl ⟨by rw [HR'.out],set4_below HB1.out _ (Nat.le_refl _) _ _ _ _⟩
 ·have hm0:vaMay ⟨x.toNat,(y.toNat:Int) - 128,n,t⟩=false:=by
   unfold vaMay
   rcases numsOk_cases (x.toNat:Int) ((y.toNat:Int) - 128) (n:Int) with ⟨_,h⟩ | ⟨h,_⟩
   ·omega
   ·simp only; rw [h]; rfl
  have HR:=HE.out
  rw [if_pos hm0] at HR
  have HR':=hZq HR
  have hs':1099511627776 < n:=by omega
  clear HR hm0 HE hs
  go_enter Tryz.func108,Tryz.ntmps108
  go_wp2_with fail
  refine (rget_eq l hl _ _ hg).mono ?_
  rintro e w' ⟨rfl,rfl⟩
  go_wp2_with fail
  refine (rtake_eq32 l hl _ _ ht).mono ?_
  rintro e w' ⟨rfl,rfl⟩
  go_wp2_with fail
  exact bodyPost_ret (v:=tripleW (Val.zero,0,3)) (by simp [results,Tryz.results108,go_sem,tripleW,valV,Val.zero]) rfl ⟨by rw [HR'.out],(Below.refl _ _).alloc (Nat.le_refl _) _⟩

theorem rvatake_any (l:List UInt8) (hl:l.length≤4294967296) (p:Int) (w:World) :
  Calls Tryz.prog 108 #[.string ⟨l.toArray⟩,.int .i64 p] w fun e w' => e=.returned (tripleW (vaTake l p))∧Below w.heap.size w w':=by
 by_cases hp:p < 0∨(l.length:Int) < p
 ·exact rvatake_out l hl p hp w
 ·obtain⟨q,rfl⟩:=Int.eq_ofNat_of_zero_le (show 0≤p by omega)
  by_cases h2:l.length < q+2
  ·exact rvatake_cut l hl q (by omega) h2 w
  ·obtain⟨n,f,er,hg⟩ : ∃ n f er,vget l ((q:Int)+2)=(n,f,er):=⟨_,_,_,rfl⟩
   by_cases he:er=0
   ·subst he
    obtain⟨t,k,es,ht⟩ : ∃ t k es,vtake l f 32=(t,k,es):=⟨_,_,_,rfl⟩
    by_cases hes:es=0
    ·subst hes
     exact rvatake_end l hl q (by omega) (hZq hg) (hZq ht) w
    ·exact rvatake_text l hl q (by omega) (hZq hg) (hZq ht) hes w
   ·exact rvatake_get l hl q (by omega) (hZq hg) he w

theorem rvatake_eq (l:List UInt8) (hl:l.length≤4294967296) (p:Int) {a b c:Int} {t:List UInt8} {f er:Nat} (h:Hid (vaTake l p=(⟨a,b,c,t⟩,f,er))) (w:World) :
  Calls Tryz.prog 108 #[.string ⟨l.toArray⟩,.int .i64 p] w fun e w' => e=.returned (.tuple #[.agg #[.int .i64 a,.int .i64 b,.int .i64 c,.string ⟨t.toArray⟩],.int .i64 f,.int .i64 er])∧Below w.heap.size w w':=by
 have:=rvatake_any l hl p w
 rwa [h.out] at this
end
section
open Go.RowKit

def Box5 (w:World) (b:Nat) (r:Row):Prop :=
 w.cell? ⟨b,0,none⟩=some (.string ⟨r.c.toArray⟩)∧w.cell? ⟨b,1,none⟩=some (.int .i64 r.v.sh)∧w.cell? ⟨b,2,none⟩=some (.int .i64 r.v.pr) ∧
  w.cell? ⟨b,3,none⟩=some (.int .i64 r.v.si)∧w.cell? ⟨b,4,none⟩=some (.string ⟨r.v.st.toArray⟩)

theorem Box5.later {w w':World} {b:Nat} {r:Row} (h:Box5 w b r) (hb:Below w.heap.size w w'):Box5 w' b r:=by
 obtain⟨h0,h1,h2,h3,h4⟩:=h
 exact⟨cell_later h0 hb,cell_later h1 hb,cell_later h2 hb,cell_later h3 hb,cell_later h4 hb⟩

theorem Box5.lt {w:World} {b:Nat} {r:Row} (h:Box5 w b r):b < w.heap.size:=World.block_lt_of_cell? w _ h.1

theorem box5 {wr w1:World} {c st:List UInt8} {x y z:Int} {ty:TypeId} (hb:Below (wr.alloc (.cells #[.string ⟨c.toArray⟩,.int .i64 x,.int .i64 y,.int .i64 z,.string ⟨st.toArray⟩] ty)).heap.size (wr.alloc (.cells #[.string ⟨c.toArray⟩,.int .i64 x,.int .i64 y,.int .i64 z,.string ⟨st.toArray⟩] ty)) w1) :
  Box5 w1 wr.heap.size ⟨c,x,y,z,st⟩∧Below wr.heap.size wr w1 :=
 ⟨⟨cell_later (a:=⟨wr.heap.size,0,none⟩) (by simp) hb,cell_later (a:=⟨wr.heap.size,1,none⟩) (by simp) hb,cell_later (a:=⟨wr.heap.size,2,none⟩) (by simp) hb,
  cell_later (a:=⟨wr.heap.size,3,none⟩) (by simp) hb,cell_later (a:=⟨wr.heap.size,4,none⟩) (by simp) hb⟩,below2' ((Below.refl _ _).alloc (Nat.le_refl _) _) hb⟩

theorem regrown_belowD {w w':World} (h:∃ p:Regrown,w'=Sort.grow (redrawn w p.d) p.os):Below w.heap.size w w':=by
 obtain⟨p,rfl⟩:=h
 exact below_regrown _ _ _

theorem diMay_on {t:List Row} (h1:¬ 32 < t.length) (h2:(List.range t.length).all (rowAt t)=true):diMay t=true:=by
 unfold diMay
 rw [h2]
 simp
 omega

theorem diMay_off {t:List Row} {k:Nat} (hk:k < t.length) (h:rowAt t k=false):diMay t=false:=by
 unfold diMay
 rw [range_all_no hk h]
 simp

theorem rowAt_is {t:List Row} {k:Nat} {c st:List UInt8} {x y z:Int} (h:t.getD k Row.zero=⟨c,x,y,z,st⟩) (hi:idIs c=false):rowAt t k=false:=by
 unfold rowAt rowOk
 rw [h]
 simp [hi]

theorem rowAt_may {t:List Row} {k:Nat} {c st:List UInt8} {x y z:Int} (h:t.getD k Row.zero=⟨c,x,y,z,st⟩) (hm:vaMay ⟨x,y,z,st⟩=false):rowAt t k=false:=by
 unfold rowAt rowOk
 rw [h]
 simp [hm]

theorem rowAt_first {t:List Row} {c st:List UInt8} {x y z:Int} (h:t.getD 0 Row.zero=⟨c,x,y,z,st⟩) (hi:idIs c=true) (hm:vaMay ⟨x,y,z,st⟩=true):rowAt t 0=true:=by
 unfold rowAt rowOk
 rw [h]
 simp [hi,hm]

theorem rowAt_next {t:List Row} {j:Nat} {c st:List UInt8} {x y z:Int} (h:t.getD (j+1) Row.zero=⟨c,x,y,z,st⟩) (hi:idIs c=true) (hm:vaMay ⟨x,y,z,st⟩=true):rowAt t (j+1)=idLess (t.getD j Row.zero).c c:=by
 unfold rowAt rowOk
 rw [h]
 simp [hi,hm]

theorem dimay_any {w:World} {v:Value} {t:List Row} (hv:Tab w v t) (hs:Short t) :
  Calls Tryz.prog 65 #[v] w fun e w' => e=.returned (.bool (diMay t))∧Below w.heap.size w w':=by
 have HV:=hZq hv
 have HS:=hZq hs
 obtain⟨a,cap,rfl,hm⟩:=hv.open'
 clear hv hs
 by_cases h:32 < t.length
 ·have HR:=hZq (diMay_long h)
  go_enter Tryz.func65,Tryz.ntmps65
  go_wp2_with fail
  go_ret
  exact⟨by rw [HR.out]; rfl,Below.refl _ _⟩
 ·go_enter Tryz.func65,Tryz.ntmps65
  go_wp2_with fail
  go_loopw [10] (fun i wr => ∃ k:Nat,k≤t.length∧i=.int .i64 k∧Hid (Below w.heap.size w wr)∧Hid ((List.range k).all (rowAt t)=true)) (fun i _ => t.length - (intOf i).toNat)
  case atStart => exact⟨0,by omega,rfl,Below.refl _ _,by show _=_; simp⟩
  case round =>
   obtain⟨k,hk,rfl,HN,HA⟩:=hrel
   by_cases hlt:k < t.length
   ·obtain⟨b,off,rfl,h0,h1,h2,h3,h4⟩:=HV.out.row HN.out k hlt
    obtain⟨hl1,hl2⟩:=HS.out.get hlt
    obtain⟨⟨c,⟨x,y,z,st⟩⟩,hr⟩ : ∃ r,t.getD k Row.zero=r:=⟨_,rfl⟩
    rw [hr] at h0 h1 h2 h3 h4 hl1 hl2
    have HRr:=hZq hr
    simp only at h0 h1 h2 h3 h4 hl1 hl2
    clear hr
    cases hi:idIs c with
    | false =>
     have HR:Hid (diMay t=false):=diMay_off hlt (rowAt_is HRr.out hi)
     have HI:=hZq hi
     clear hi
     go_wp2_with fail
     refine (is_eq c hl1 HI _).mono ?_
     rintro e w1 ⟨rfl,hb1⟩
     have B1:=hZq (below2' HN.out (box5 hb1).2)
     clear hb1
     go_wp2_with fail
     go_ret
     exact⟨by rw [HR.out]; rfl,B1.out⟩
    | true =>
     have HI:=hZq hi
     clear hi
     go_wp2_with fail
     refine (is_eq c hl1 HI _).mono ?_
     rintro e w1 ⟨rfl,hb1⟩
     have B1:=hZq (below2' HN.out (box5 hb1).2)
     have K1:=hZq (box5 hb1).1
     obtain⟨k0,k1,k2,k3,k4⟩:=K1.out
     clear hb1 h0 h1 h2 h3 h4
     cases hm2:vaMay ⟨x,y,z,st⟩ with
     | false =>
      have HR:Hid (diMay t=false):=diMay_off hlt (rowAt_may HRr.out hm2)
      have HM:=hZq hm2
      clear hm2
      go_wp2_with fail
      refine (may_eq x y z st hl2 HM _).mono ?_
      rintro e w2 ⟨rfl,hb2⟩
      have B2:=hZq (below2' B1.out hb2)
      clear hb2 k0 k1 k2 k3 k4
      go_wp2_with fail
      go_ret
      exact⟨by rw [HR.out]; rfl,B2.out⟩
     | true =>
      have HM:=hZq hm2
      clear hm2
      go_wp2_with fail
      refine (may_eq x y z st hl2 HM _).mono ?_
      rintro e w2 ⟨rfl,hb2⟩
      have B2:=hZq (below2' B1.out hb2)
      have K2:=hZq (K1.out.later hb2)
      clear hb2 k0 k1 k2 k3 k4 B1 K1
      rcases Nat.eq_zero_or_pos k with rfl | hpos
      ·have HA2:Hid ((List.range 1).all (rowAt t)=true):=by show _=_; exact range_all_succ HA.out (rowAt_first HRr.out HI.out HM.out)
       go_wp2_with fail
       refine wp_region_quiet_below (by kernel_rfl) (by kernel_rfl) ?_
       repeat (go_big_quiet_step (fail))
       refine wpQuiet_nil ?_
       intro w5 hw5
       have hb5:=regrown_belowD hw5
       have HN5:=hZq (below2' B2.out hb5)
       clear hw5 hb5
       go_wp2_with fail
       go_roundw
       case rel => exact⟨1,by omega,by go_num,HN5,HA2⟩
       case measure => simp [intOf]; omega
      ·obtain⟨j,rfl⟩ : ∃ j,k=j+1:=⟨k - 1,by omega⟩
       obtain⟨b2,o2,e2,i0,_,_,_,_⟩:=HV.out.row B2.out j (by omega)
       injection e2 with e2
       injection e2 with e3 e4 _
       subst e3 e4
       have HX:=rowAt_next HRr.out HI.out HM.out
       obtain⟨yy,hy⟩ : ∃ yy,(t.getD j Row.zero).c=yy:=⟨_,rfl⟩
       rw [hy] at i0 HX
       clear hy
       have g1:=cell_regrown i0
       have g2:=cell_regrown K2.out.1
       cases hle:idLess yy c with
       | false =>
        have HR:Hid (diMay t=false):=diMay_off hlt (HX.trans hle)
        have HLe:=hZq (less_eq yy c (r:=false) (hZq hle))
        clear hle HX i0 hpos
        go_wp2_with fail
        refine wp_region_quiet_below (by kernel_rfl) (by kernel_rfl) ?_
        repeat (go_big_quiet_step (with_reducible exact rgB HLe.out _ _ _))
        refine wpQuiet_nil ?_
        intro w5 hw5
        have hb5:=regrown_belowD hw5
        have HN5:=hZq (below2' B2.out hb5)
        clear hw5 hb5 g1 g2
        go_wp2_with fail
        go_ret
        exact⟨by rw [HR.out]; rfl,HN5.out⟩
       | true =>
        have HA2:Hid ((List.range (j+1+1)).all (rowAt t)=true):=by show _=_; exact range_all_succ HA.out (HX.trans hle)
        have HLe:=hZq (less_eq yy c (r:=true) (hZq hle))
        clear hle HX i0 hpos
        go_wp2_with fail
        refine wp_region_quiet_below (by kernel_rfl) (by kernel_rfl) ?_
        repeat (go_big_quiet_step (with_reducible exact rgB HLe.out _ _ _))
        refine wpQuiet_nil ?_
        intro w5 hw5
        have hb5:=regrown_belowD hw5
        have HN5:=hZq (below2' B2.out hb5)
        clear hw5 hb5 g1 g2
        go_wp2_with fail
        go_roundw
        case rel => exact⟨j+1+1,by omega,by go_num,HN5,HA2⟩
        case measure => simp [intOf]; omega
   ·obtain rfl:k=t.length:=by omega
    have HR:Hid (diMay t=true):=by show _=_; exact diMay_on h HA.out
    go_wp2_with fail
    go_ret
    exact⟨by rw [HR.out]; rfl,HN.out⟩

theorem dimay_eq {w:World} {v:Value} {t:List Row} (hv:Tab w v t) (hs:Short t) {r:Bool} (h:Hid (diMay t=r)) :
  Calls Tryz.prog 65 #[v] w fun e w' => e=.returned (.bool r)∧Below w.heap.size w w':=by
 have:=dimay_any hv hs
 rwa [h.out] at this
end
section
open Go.RowKit

theorem rdimay_any {w:World} {v:Value} {t:List Row} (hv:Tab w v t) (hs:Short t) :
  Calls Tryz.prog 30 #[v] w fun e w' => e=.returned (.bool (diMay t))∧Below w.heap.size w w':=by
 have HV:=hZq hv
 have HS:=hZq hs
 obtain⟨a,cap,rfl,hm⟩:=hv.open'
 clear hv hs
 by_cases h:32 < t.length
 ·have HR:=hZq (diMay_long h)
  go_enter Tryz.func30,Tryz.ntmps30
  go_wp2_with fail
  go_ret
  exact⟨by rw [HR.out]; rfl,Below.refl _ _⟩
 ·go_enter Tryz.func30,Tryz.ntmps30
  go_wp2_with fail
  go_loopw [3] (fun i wr => ∃ k:Nat,k≤t.length∧i=.int .i64 k∧Hid (Below w.heap.size w wr)∧Hid ((List.range k).all (rowAt t)=true)) (fun i _ => t.length - (intOf i).toNat)
  case atStart => exact⟨0,by omega,rfl,Below.refl _ _,by show _=_; simp⟩
  case round =>
   obtain⟨k,hk,rfl,HN,HA⟩:=hrel
   by_cases hlt:k < t.length
   ·obtain⟨b,off,rfl,h0,h1,h2,h3,h4⟩:=HV.out.row HN.out k hlt
    obtain⟨hl1,hl2⟩:=HS.out.get hlt
    obtain⟨⟨c,⟨x,y,z,st⟩⟩,hr⟩ : ∃ r,t.getD k Row.zero=r:=⟨_,rfl⟩
    rw [hr] at h0 h1 h2 h3 h4 hl1 hl2
    have HRr:=hZq hr
    simp only at h0 h1 h2 h3 h4 hl1 hl2
    have g0:=cell_regrown h0
    have g1:=cell_regrown h1
    have g2:=cell_regrown h2
    have g3:=cell_regrown h3
    have g4:=cell_regrown h4
    clear hr h0 h1 h2 h3 h4
    cases hi:idIs c with
    | false =>
     have HR:Hid (diMay t=false):=diMay_off hlt (rowAt_is HRr.out hi)
     have HI:=hZq (ris_eq c hl1 (r:=false) (hZq hi))
     clear hi
     go_wp2_with fail
     refine wp_region_quiet_below (by kernel_rfl) (by kernel_rfl) ?_
     repeat (go_big_quiet_step (with_reducible exact rgS HI.out _ _ _))
     refine wpQuiet_nil ?_
     intro w5 hw5
     have hb5:=regrown_belowD hw5
     have HN5:=hZq (below2' HN.out hb5)
     clear hw5 hb5 g0 g1 g2 g3 g4
     go_wp2_with fail
     go_ret
     exact⟨by rw [HR.out]; rfl,HN5.out⟩
    | true =>
     have HI:=hZq (ris_eq c hl1 (r:=true) (hZq hi))
     cases hm2:vaMay ⟨x,y,z,st⟩ with
     | false =>
      have HR:Hid (diMay t=false):=diMay_off hlt (rowAt_may HRr.out hm2)
      have HM:=hZq (rmay_eq x y z st hl2 (r:=false) (hZq hm2))
      clear hi hm2
      go_wp2_with fail
      refine wp_region_quiet_below (by kernel_rfl) (by kernel_rfl) ?_
      repeat (go_big_quiet_step (first | with_reducible exact rgS HI.out _ _ _ | with_reducible exact rgB HM.out _ _ _))
      refine wpQuiet_nil ?_
      intro w5 hw5
      have hb5:=regrown_belowD hw5
      have HN5:=hZq (below2' HN.out hb5)
      clear hw5 hb5 g0 g1 g2 g3 g4
      go_wp2_with fail
      go_ret
      exact⟨by rw [HR.out]; rfl,HN5.out⟩
     | true =>
      have HM:=hZq (rmay_eq x y z st hl2 (r:=true) (hZq hm2))
      rcases Nat.eq_zero_or_pos k with rfl | hpos
      ·have HA2:Hid ((List.range 1).all (rowAt t)=true):=by show _=_; exact range_all_succ HA.out (rowAt_first HRr.out hi hm2)
       clear hi hm2
       simp only [Nat.zero_mul,Nat.add_zero] at g0 g1 g2 g3 g4
       go_wp2_with fail
       refine wp_region_quiet_below (by kernel_rfl) (by kernel_rfl) ?_
       repeat (go_big_quiet_step (first | with_reducible exact rgS HI.out _ _ _ | with_reducible exact rgB HM.out _ _ _))
       refine wpQuiet_nil ?_
       intro w5 hw5
       have hb5:=regrown_belowD hw5
       have HN5:=hZq (below2' HN.out hb5)
       clear hw5 hb5 g0 g1 g2 g3 g4
       go_wp2_with fail
       go_roundw
       case rel => exact⟨1,by omega,by go_num,HN5,HA2⟩
       case measure => simp [intOf]; omega
      ·obtain⟨j,rfl⟩ : ∃ j,k=j+1:=⟨k - 1,by omega⟩
       obtain⟨b2,o2,e2,i0,_,_,_,_⟩:=HV.out.row HN.out j (by omega)
       injection e2 with e2
       injection e2 with e3 e4 _
       subst e3 e4
       have HX:=rowAt_next HRr.out hi hm2
       obtain⟨yy,hy⟩ : ∃ yy,(t.getD j Row.zero).c=yy:=⟨_,rfl⟩
       rw [hy] at i0 HX
       have g5:=cell_regrown i0
       clear hy i0 hi hm2
       cases hle:idLess yy c with
       | false =>
        have HR:Hid (diMay t=false):=diMay_off hlt (HX.trans hle)
        have HLe:=hZq (rless_eq yy c (r:=false) (hZq hle))
        clear hle HX hpos
        go_wp2_with fail
        refine wp_region_quiet_below (by kernel_rfl) (by kernel_rfl) ?_
        repeat (go_big_quiet_step (first | with_reducible exact rgS HI.out _ _ _ | with_reducible exact rgB HM.out _ _ _ | with_reducible exact rgS HLe.out _ _ _))
        refine wpQuiet_nil ?_
        intro w5 hw5
        have hb5:=regrown_belowD hw5
        have HN5:=hZq (below2' HN.out hb5)
        clear hw5 hb5 g0 g1 g2 g3 g4 g5
        go_wp2_with fail
        go_ret
        exact⟨by rw [HR.out]; rfl,HN5.out⟩
       | true =>
        have HA2:Hid ((List.range (j+1+1)).all (rowAt t)=true):=by show _=_; exact range_all_succ HA.out (HX.trans hle)
        have HLe:=hZq (rless_eq yy c (r:=true) (hZq hle))
        clear hle HX hpos
        go_wp2_with fail
        refine wp_region_quiet_below (by kernel_rfl) (by kernel_rfl) ?_
        repeat (go_big_quiet_step (first | with_reducible exact rgS HI.out _ _ _ | with_reducible exact rgB HM.out _ _ _ | with_reducible exact rgS HLe.out _ _ _))
        refine wpQuiet_nil ?_
        intro w5 hw5
        have hb5:=regrown_belowD hw5
        have HN5:=hZq (below2' HN.out hb5)
        clear hw5 hb5 g0 g1 g2 g3 g4 g5
        go_wp2_with fail
        go_roundw
        case rel => exact⟨j+1+1,by omega,by go_num,HN5,HA2⟩
        case measure => simp [intOf]; omega
   ·obtain rfl:k=t.length:=by omega
    have HR:Hid (diMay t=true):=by show _=_; exact diMay_on h HA.out
    go_wp2_with fail
    go_ret
    exact⟨by rw [HR.out]; rfl,HN.out⟩

theorem rdimay_eq {w:World} {v:Value} {t:List Row} (hv:Tab w v t) (hs:Short t) {r:Bool} (h:Hid (diMay t=r)) :
  Calls Tryz.prog 30 #[v] w fun e w' => e=.returned (.bool r)∧Below w.heap.size w w':=by
 have:=rdimay_any hv hs
 rwa [h.out] at this
end
section
open Go.Shelf Go.RowKit

def Tryz.lays166_ren:Go.Shelf.Ren:=⟨fun | 166 => 171 | 240 => 180 | 276 => 186 | n => n,fun | 0 => 0 | 3 => 3 | 4 => 4 | 5 => 5 | 9 => 9 | 20 => 20 | 37 => 118 | 70 => 173 | 72 => 175 | 75 => 177 | 80 => 180 | 164 => 193 | n => n,fun | n => n⟩

theorem Tryz.lays166:Go.Proofs.Lays.n166 Tryz.prog Tryz.lays166_ren:={
 mixed:=by kernel_rfl
 f166:=Tryz.func171.trans (congrArg some (by kernel_rfl))
 f240:=Tryz.func180.trans (congrArg some (by kernel_rfl))
 f276:=Tryz.func186.trans (congrArg some (by kernel_rfl))
 t0:=Tryz.underlying0
 a0:=Tryz.isAgg0
 z0:=Tryz.sizeOf0
 v0:=Tryz.zeroValue0
 t3:=Tryz.underlying3
 a3:=Tryz.isAgg3
 z3:=Tryz.sizeOf3
 v3:=Tryz.zeroValue3
 t4:=Tryz.underlying4
 a4:=Tryz.isAgg4
 z4:=Tryz.sizeOf4
 v4:=Tryz.zeroValue4
 t9:=Tryz.underlying9
 a9:=Tryz.isAgg9
 z9:=Tryz.sizeOf9
 v9:=Tryz.zeroValue9
 t20:=Tryz.underlying20
 a20:=Tryz.isAgg20
 z20:=Tryz.sizeOf20
 v20:=Tryz.zeroValue20
 t37:=Tryz.underlying118
 a37:=Tryz.isAgg118
 z37:=Tryz.sizeOf118
 v37:=Tryz.zeroValue118
 t70:=Tryz.underlying173
 a70:=Tryz.isAgg173
 z70:=Tryz.sizeOf173
 v70:=Tryz.zeroValue173
 t72:=Tryz.underlying175
 a72:=Tryz.isAgg175
 z72:=Tryz.sizeOf175
 v72:=Tryz.zeroValue175
 t75:=Tryz.underlying177
 a75:=Tryz.isAgg177
 z75:=Tryz.sizeOf177
 v75:=Tryz.zeroValue177
 t164:=Tryz.underlying193
 a164:=Tryz.isAgg193
 z164:=Tryz.sizeOf193
 v164:=Tryz.zeroValue193 }

theorem Tryz.Builder_Extra_166:Builder.Extra Tryz.prog Tryz.lays166_ren:={
 sizeBuilder:=by kernel_rfl
 liesBuilder:=by kernel_rfl
 t5:=Tryz.underlying5
 a5:=Tryz.isAgg5
 z5:=Tryz.sizeOf5
 v5:=Tryz.zeroValue5
 infoByte:=by kernel_rfl
 cellsByte:=by kernel_rfl
 sizeByte:=by kernel_rfl
 neB5:=by decide }

theorem Tryz.Builder_WriteString_k (B b:Nat) (bs:List Value) (s:ByteArray) (w:World) (h:Lib.IsBuilderF 175 5 B b bs w) (hlen:bs.length+s.size≤140737488355328) (hBw:B≤w.heap.size) :
  Calls Tryz.prog 171 #[.pointer (some ⟨b,0,none⟩),.string s] w fun e w' => e=.returned (.tuple #[.int .i64 s.size,.nilIface])∧(Lib.BuilderAtF 175 5 B b (.pointer (some ⟨b,0,none⟩)) (bs ++ Lib.strCells s) w'∧Below B w w'∧Lib.OthersKept 5 (some b) w w'):=Any.Builder_WriteString_k Tryz.lays166 Tryz.Builder_Extra_166 B b bs s w h hlen hBw
end
section
open Go.RowKit Go.Lib
attribute [local go_sem] ByteArray.mk_append_mk

theorem diPut_yes {t:List Row} (h:diMay t=true):diPut t=(diBytes t,true):=by unfold diPut; rw [if_pos h]
theorem diPut_no {t:List Row} (h:diMay t=false):diPut t=([],false):=by unfold diPut; rw [if_neg (by rw [h]; decide)]

theorem rowOk_at {t:List Row} {k:Nat} {c st:List UInt8} {x y z:Int} (h:∀ r ∈ t,rowOk r=true) (hk:k < t.length) (hr:t.getD k Row.zero=⟨c,x,y,z,st⟩):idIs c=true∧vaMay ⟨x,y,z,st⟩=true:=by
 have hm:t.getD k Row.zero ∈ t:=by rw [← row_get hk]; exact List.getElem_mem hk
 have:=rowOk_parts (h _ hm)
 rw [hr] at this
 exact this

theorem idPut_is {c:List UInt8} (h:idIs c=true):idPut c=(vput c.length ++ c,true):=by unfold idPut; rw [if_pos h]
theorem vaPut_is {v:Val} (h:vaMay v=true):vaPut v=vaBytes v:=by unfold vaPut; rw [if_pos h]

theorem rowsBytes_next {t:List Row} {k:Nat} {c st:List UInt8} {x y z:Int} (hk:k < t.length) (hr:t.getD k Row.zero=⟨c,x,y,z,st⟩) :
  rowsBytes (t.take (k+1))=rowsBytes (t.take k) ++ ((vput c.length ++ c) ++ vaBytes ⟨x,y,z,st⟩):=by
 rw [rowsBytes_succ hk,hr]
 rfl

theorem acc_len {t:List Row} (h:∀ r ∈ t,rowOk r=true) (hl:t.length≤32) (k:Nat):(vput t.length ++ rowsBytes (t.take k)).length≤1994:=by
 have h1:=rowsBytes_len (t:=t.take k) (fun r hr => h r (List.mem_of_mem_take hr))
 have h2:=vput_len_le t.length
 have h3:(t.take k).length≤t.length:=by rw [List.length_take]; omega
 rw [List.length_append]
 omega

theorem diput_no {w:World} {v:Value} {t:List Row} (hv:Tab w v t) (hs:Short t) (hm:Hid (diMay t=false)) :
  Calls Tryz.prog 159 #[v] w fun e w' => e=.returned (.tuple #[.string ⟨([]:List UInt8).toArray⟩,.bool false])∧Below w.heap.size w w':=by
 have HM:=hZq (dimay_eq hv hs hm)
 obtain⟨a,cap,rfl,_⟩:=hv.open'
 clear hv hs hm
 go_enter Tryz.func159,Tryz.ntmps159
 go_wp2_with fail
 refine HM.out.mono ?_
 rintro e w1 ⟨rfl,hb1⟩
 have B1:=hZq hb1
 clear hb1
 go_wp2_with fail
 go_ret2
 exact⟨rfl,B1.out⟩

theorem diput_yes {w:World} {v:Value} {t:List Row} (hv:Tab w v t) (hs:Short t) (hm:Hid (diMay t=true)) :
  Calls Tryz.prog 159 #[v] w fun e w' => e=.returned (.tuple #[.string ⟨(diBytes t).toArray⟩,.bool true])∧Below w.heap.size w w':=by
 have HM:=hZq (dimay_eq hv hs hm)
 have HV:=hZq hv
 have hl32:=(diMay_iff.1 hm.out).1
 have HOk:=hZq (diMay_iff.1 hm.out).2.1
 have HS:=hZq hs
 obtain⟨a,cap,rfl,_⟩:=hv.open'
 have HPut:=hZq (put_any t.length (by omega))
 clear hv hs hm
 go_enter Tryz.func159,Tryz.ntmps159
 go_wp2_with fail
 refine HM.out.mono ?_
 rintro e w1 ⟨rfl,hb1⟩
 have B1:=hZq hb1
 have HW:=hZq (fun W (acc l:List UInt8) h1 h2 h3 => Tryz.Builder_WriteString_k w1.heap.size w1.heap.size (byteCells acc) ⟨l.toArray⟩ W h1 h2 h3)
 have HStr:=hZq (fun W (acc:List UInt8) hI hb => Tryz.Builder_String_any_k w1.heap.size w1.heap.size acc W hI hb)
 have HF:=hZq (IsBuilderF.of (fresh_isBuilder 175 5 w1))
 clear hb1
 go_wp2_with fail
 refine (HPut.out _).mono ?_
 rintro e w2 ⟨rfl,hb2⟩
 have F2:=hZq (builder_later HF.out hb2)
 have N2:=hZq (below2' ((Below.refl w1.heap.size w1).alloc (Nat.le_refl _) _) hb2)
 have hz2:=N2.out.size
 have hvl:=vput_len_le t.length
 clear hb2 HF
 go_wp2_with fail
 refine (HW.out _ [] (vput t.length) F2.out (by rw [byteCells_length,size_bytes]; simp; omega) hz2).mono ?_
 rintro e w3 ⟨rfl,h3,b3,_⟩
 have F3:Hid (IsBuilderF 175 5 w1.heap.size w1.heap.size (byteCells (vput t.length)) w3):=by
  show IsBuilderF _ _ _ _ _ _
  have:byteCells (vput t.length)=byteCells [] ++ strCells ⟨(vput t.length).toArray⟩:=by rw [strCells_eq]; rfl
  rw [this]
  exact Or.inr h3
 have N3:=hZq (N2.out.trans b3)
 clear h3 b3 F2 N2 hz2
 go_wp2_with fail
 go_loopw [21] (fun i wr => ∃ (k:Nat) (acc:List UInt8),k≤t.length∧i=.int .i64 k∧Hid (acc=vput t.length ++ rowsBytes (t.take k))∧Hid (IsBuilderF 175 5 w1.heap.size w1.heap.size (byteCells acc) wr)∧Hid (Below w1.heap.size w1 wr)) (fun i _ => t.length - (intOf i).toNat)
 case atStart => exact⟨0,vput t.length,by omega,rfl,by show _=_; simp [rowsBytes],F3,N3⟩
 case round =>
  clear F3 N3
  obtain⟨k,acc,hk,rfl,HA,F,HN⟩:=hrel
  by_cases hlt:k < t.length
  ·obtain⟨b,off,rfl,h0,h1,h2,h3,h4⟩:=HV.out.row (below2' B1.out HN.out) k hlt
   obtain⟨hl1,hl2⟩:=HS.out.get hlt
   obtain⟨⟨c,⟨x,y,z,st⟩⟩,hr⟩ : ∃ r,t.getD k Row.zero=r:=⟨_,rfl⟩
   rw [hr] at h0 h1 h2 h3 h4 hl1 hl2
   obtain⟨hi,hm⟩:=rowOk_at HOk.out hlt hr
   have HX:=hZq (rowsBytes_next hlt hr)
   have HP:=hZq (idput_eq c hl1 (hZq (idPut_is hi)))
   have HQ:=hZq (vaput_any x y z st hl2 (hZq (vaPut_is hm)) (hZq hm))
   have hal:=acc_len HOk.out hl32 k
   rw [← HA.out] at hal
   have hal2:=acc_len HOk.out hl32 (k+1)
   obtain⟨p,hp⟩ : ∃ p,vput c.length ++ c=p:=⟨_,rfl⟩
   obtain⟨q,hq⟩ : ∃ q,vaBytes ⟨x,y,z,st⟩=q:=⟨_,rfl⟩
   rw [hp] at HP HX
   rw [hq] at HQ HX
   rw [HX.out,← List.append_assoc,← HA.out] at hal2
   have hal3:acc.length+p.length+q.length≤1994:=by simp only [List.length_append] at hal2; omega
   have HA2:Hid (acc ++ p ++ q=vput t.length ++ rowsBytes (t.take (k+1))):=by show _=_; rw [HX.out,HA.out]; simp
   simp only at h0 h1 h2 h3 h4 hl1 hl2
   clear hr hi hm hp hq hal hal2 HX hl1 hl2
   go_wp2_with fail
   refine (HP.out _).mono ?_
   rintro e w4 ⟨rfl,hb4⟩
   have N4:=hZq (below2' HN.out (box5 hb4).2)
   have F4:=hZq (builder_later F.out (box5 hb4).2)
   obtain⟨k0,k1,k2,k3,k4⟩:=(box5 hb4).1
   clear hb4 h0 h1 h2 h3 h4
   go_wp2_with fail
   refine (HQ.out _).mono ?_
   rintro e w5 ⟨rfl,hb5⟩
   have N5:=hZq (below2' N4.out hb5)
   have F5:=hZq (builder_later F4.out hb5)
   have hz5:=N5.out.size
   clear hb5 k0 k1 k2 k3 k4 N4 F4
   go_wp2_with fail
   refine (HW.out _ acc p F5.out (by rw [byteCells_length,size_bytes]; omega) hz5).mono ?_
   rintro e w6 ⟨rfl,h6,b6,_⟩
   have F6:Hid (IsBuilderF 175 5 w1.heap.size w1.heap.size (byteCells (acc ++ p)) w6):=by
    show IsBuilderF _ _ _ _ _ _
    rw [byteCells_append]
    exact Or.inr h6
   have N6:=hZq (N5.out.trans b6)
   have hz6:=N6.out.size
   clear h6 b6 N5 F5 hz5
   go_wp2_with fail
   refine (HW.out _ (acc ++ p) q F6.out (by rw [byteCells_length,size_bytes,List.length_append]; omega) hz6).mono ?_
   rintro e w7 ⟨rfl,h7,b7,_⟩
   have F7:Hid (IsBuilderF 175 5 w1.heap.size w1.heap.size (byteCells (acc ++ p ++ q)) w7):=by
    show IsBuilderF _ _ _ _ _ _
    rw [byteCells_append]
    exact Or.inr h7
   have N7:=hZq (N6.out.trans b7)
   clear h7 b7 N6 F6 hz6
   go_wp2_with fail
   go_roundw
   case rel => exact⟨k+1,acc ++ p ++ q,by omega,by go_num,HA2,F7,N7⟩
   case measure => simp [intOf]; omega
  ·obtain rfl:k=t.length:=by omega
   have HR:Hid (acc=diBytes t):=by show _=_; rw [HA.out,List.take_length]; rfl
   have hz:=HN.out.size
   go_wp2_with fail
   refine (HStr.out _ acc F.out hz).mono ?_
   rintro e w8 ⟨rfl,_,b8,_⟩
   have N8:=hZq (below2' B1.out (HN.out.trans b8))
   clear b8
   go_wp2_with fail
   go_ret2
   exact⟨by rw [HR.out]; rfl,N8.out⟩

theorem diput_eq {w:World} {v:Value} {t:List Row} (hv:Tab w v t) (hs:Short t) {l:List UInt8} {r:Bool} (h:Hid (diPut t=(l,r))) :
  Calls Tryz.prog 159 #[v] w fun e w' => e=.returned (.tuple #[.string ⟨l.toArray⟩,.bool r])∧Below w.heap.size w w':=by
 have e:=h.out
 cases hm:diMay t with
 | false =>
  rw [diPut_no hm] at e
  simp only [Prod.mk.injEq] at e
  obtain⟨rfl,rfl⟩:=e
  exact diput_no hv hs (hZq hm)
 | true =>
  rw [diPut_yes hm] at e
  simp only [Prod.mk.injEq] at e
  obtain⟨rfl,rfl⟩:=e
  exact diput_yes hv hs (hZq hm)
end
section
open Go.RowKit
attribute [local go_sem] ByteArray.mk_append_mk

theorem rdiput_no {w:World} {v:Value} {t:List Row} (hv:Tab w v t) (hs:Short t) (hm:Hid (diMay t=false)) :
  Calls Tryz.prog 63 #[v] w fun e w' => e=.returned (.tuple #[.string ⟨([]:List UInt8).toArray⟩,.bool false])∧Below w.heap.size w w':=by
 have HM:=hZq (rdimay_eq hv hs hm)
 obtain⟨a,cap,rfl,_⟩:=hv.open'
 clear hv hs hm
 go_enter Tryz.func63,Tryz.ntmps63
 go_wp2_with fail
 refine HM.out.mono ?_
 rintro e w1 ⟨rfl,hb1⟩
 have B1:=hZq hb1
 clear hb1
 go_wp2_with fail
 go_ret2
 exact⟨rfl,B1.out⟩

theorem rdiput_yes {w:World} {v:Value} {t:List Row} (hv:Tab w v t) (hs:Short t) (hm:Hid (diMay t=true)) :
  Calls Tryz.prog 63 #[v] w fun e w' => e=.returned (.tuple #[.string ⟨(diBytes t).toArray⟩,.bool true])∧Below w.heap.size w w':=by
 have HM:=hZq (rdimay_eq hv hs hm)
 have HV:=hZq hv
 have hl32:=(diMay_iff.1 hm.out).1
 have HOk:=hZq (diMay_iff.1 hm.out).2.1
 have HS:=hZq hs
 obtain⟨a,cap,rfl,_⟩:=hv.open'
 have HPut:=hZq (rput_any t.length (by omega))
 clear hv hs hm
 go_enter Tryz.func63,Tryz.ntmps63
 go_wp2_with fail
 refine HM.out.mono ?_
 rintro e w1 ⟨rfl,hb1⟩
 have B1:=hZq hb1
 clear hb1
 go_wp2_with fail
 refine (HPut.out _).mono ?_
 rintro e w2 ⟨rfl,hb2⟩
 have N2:=hZq (below2' B1.out hb2)
 clear hb2
 go_wp2_with fail
 go_loopw [4,5] (fun s i wr => ∃ (k:Nat) (acc:List UInt8),k≤t.length∧i=.int .i64 k∧s=.string ⟨acc.toArray⟩∧Hid (acc=vput t.length ++ rowsBytes (t.take k))∧Hid (Below w.heap.size w wr)) (fun _ i _ => t.length - (intOf i).toNat)
 case atStart => exact⟨0,vput t.length,by omega,rfl,rfl,by show _=_; simp [rowsBytes],N2⟩
 case round =>
  clear N2
  obtain⟨k,acc,hk,rfl,rfl,HA,HN⟩:=hrel
  by_cases hlt:k < t.length
  ·obtain⟨b,off,rfl,h0,h1,h2,h3,h4⟩:=HV.out.row HN.out k hlt
   obtain⟨hl1,hl2⟩:=HS.out.get hlt
   obtain⟨⟨c,⟨x,y,z,st⟩⟩,hr⟩ : ∃ r,t.getD k Row.zero=r:=⟨_,rfl⟩
   rw [hr] at h0 h1 h2 h3 h4 hl1 hl2
   obtain⟨hi,hm⟩:=rowOk_at HOk.out hlt hr
   have HX:=hZq (rowsBytes_next hlt hr)
   have HP:=hZq (ridput_eq c hl1 (hZq (idPut_is hi)))
   have HQ:=hZq (rvaput_any x y z st hl2 (hZq (vaPut_is hm)) (hZq hm))
   have hal:=acc_len HOk.out hl32 k
   rw [← HA.out] at hal
   have hal2:=acc_len HOk.out hl32 (k+1)
   obtain⟨p,hp⟩ : ∃ p,vput c.length ++ c=p:=⟨_,rfl⟩
   obtain⟨q,hq⟩ : ∃ q,vaBytes ⟨x,y,z,st⟩=q:=⟨_,rfl⟩
   rw [hp] at HP HX
   rw [hq] at HQ HX
   rw [HX.out,← List.append_assoc,← HA.out] at hal2
   have hal3:acc.length+p.length+q.length≤1994:=by simp only [List.length_append] at hal2; omega
   have HA2:Hid (acc ++ (p ++ q)=vput t.length ++ rowsBytes (t.take (k+1))):=by show _=_; rw [HX.out,HA.out]; simp
   simp only at h0 h1 h2 h3 h4 hl1 hl2
   have K0:=hZq (⟨h1,h2,h3,h4⟩ : _∧_∧_∧_)
   clear hr hi hm hp hq hal hal2 HX hl1 hl2 h1 h2 h3 h4
   go_wp2_with fail
   refine (HP.out _).mono ?_
   rintro e w4 ⟨rfl,hb4⟩
   have N4:=hZq (below2' HN.out hb4)
   have h1:=cell_later K0.out.1 hb4
   have h2:=cell_later K0.out.2.1 hb4
   have h3:=cell_later K0.out.2.2.1 hb4
   have h4:=cell_later K0.out.2.2.2 hb4
   clear hb4 h0 K0
   go_wp2_with fail
   refine (HQ.out _).mono ?_
   rintro e w5 ⟨rfl,hb5⟩
   have N5:=hZq (below2' N4.out hb5)
   clear hb5 h1 h2 h3 h4 N4
   go_wp2_with fail
   go_roundw
   case rel => exact⟨k+1,acc ++ (p ++ q),by omega,by go_num,by first | rfl | simp,HA2,N5⟩
   case measure => simp [intOf]; omega
  ·obtain rfl:k=t.length:=by omega
   have HR:Hid (acc=diBytes t):=by show _=_; rw [HA.out,List.take_length]; rfl
   go_wp2_with fail
   go_ret2
   exact⟨by rw [HR.out]; rfl,HN.out⟩

theorem rdiput_eq {w:World} {v:Value} {t:List Row} (hv:Tab w v t) (hs:Short t) {l:List UInt8} {r:Bool} (h:Hid (diPut t=(l,r))) :
  Calls Tryz.prog 63 #[v] w fun e w' => e=.returned (.tuple #[.string ⟨l.toArray⟩,.bool r])∧Below w.heap.size w w':=by
 have e:=h.out
 cases hm:diMay t with
 | false =>
  rw [diPut_no hm] at e
  simp only [Prod.mk.injEq] at e
  obtain⟨rfl,rfl⟩:=e
  exact rdiput_no hv hs (hZq hm)
 | true =>
  rw [diPut_yes hm] at e
  simp only [Prod.mk.injEq] at e
  obtain⟨rfl,rfl⟩:=e
  exact rdiput_yes hv hs (hZq hm)
end
section
open Go.RowKit

theorem fnv_lit (l:List UInt8):fnv l < 18446744073709551616:=fnv_lt l

theorem fnv_step (a:Nat) (b:UInt8) (ha:a < 18446744073709551616):IntKind.u64.wrap (bits .xor .u64 (a:Int) (b.toNat:Int) * 1099511628211)=((fnv1 a b:Nat):Int):=by
 have hb:=b.toNat_lt
 rw [u64_xor_nat _ _ (by omega) (by omega),IntKind.wrap_u64]
 unfold fnv1 fnvP fnvM
 omega

theorem fnv_start:(14695981039346656037:Int)=((fnv (List.take 0 ([]:List UInt8)):Nat):Int):=rfl

theorem fnv_next {l:List UInt8} {k:Nat} {b:UInt8} (hb:l[k]?=some b):fnv (l.take (k+1))=fnv1 (fnv (l.take k)) b:=by
 obtain⟨h1,h2⟩:=List.getElem?_eq_some_iff.1 hb
 rw [List.take_succ_eq_append_getElem h1,h2,fnv_snoc]

set_option maxRecDepth 1000000 in
theorem disum_any {w:World} {v:Value} {t:List Row} (hv:Tab w v t) (hs:Short t) :
  Calls Tryz.prog 150 #[v] w fun e w' => e=.returned (.int .u64 (diSum t))∧Below w.heap.size w w':=by
 obtain⟨l,r,hl⟩ : ∃ l r,diPut t=(l,r):=⟨_,_,rfl⟩
 have hll:=diPut_len t
 rw [hl] at hll
 simp only at hll
 have HP:=hZq (diput_eq hv hs (hZq hl))
 have HR:Hid (diSum t=fnv l):=by show _=_; unfold diSum; rw [hl]
 obtain⟨a,cap,rfl,_⟩:=hv.open'
 clear hv hs hl
 go_enter Tryz.func150,Tryz.ntmps150
 go_wp2_with fail
 refine HP.out.mono ?_
 rintro e w1 ⟨rfl,hb1⟩
 have B1:=hZq hb1
 clear hb1
 go_wp2_with fail
 go_loop [5,14] (fun s i => ∃ k:Nat,k≤l.length∧i=.int .i64 k∧s=.int .u64 (fnv (l.take k))) (fun _ i => l.length - (intOf i).toNat)
 case atStart => exact⟨0,by omega,rfl,congrArg (Value.int .u64) fnv_start⟩
 case round =>
  obtain⟨k,hk,rfl,rfl⟩:=hrel
  by_cases hlt:k < l.length
  ·have hlt':k < (⟨l.toArray⟩ : ByteArray).size:=by rw [size_bytes]; exact hlt
   obtain⟨b,hb⟩ : ∃ b:UInt8,(⟨l.toArray⟩ : ByteArray)[k]'hlt'=b:=⟨_,rfl⟩
   have HB:Hid (l[k]?=some b):=by rw [← hb]; exact bytes_at l k hlt'
   have h256:=b.toNat_lt
   have HE:=hZq (fnv_next HB.out)
   have HL:=hZq (fnv_lit (l.take k))
   obtain⟨x,hx⟩ : ∃ x,fnv (l.take k)=x:=⟨_,rfl⟩
   rw [hx] at HE HL
   rw [hx]
   have HE2:=hZq (fnv_step x b HL.out)
   clear hx
   go_wp2_with fail
   go_round
   case rel => exact⟨k+1,by omega,by go_num,congrArg (Value.int .u64) (by rw [HE.out]; exact HE2.out)⟩
   case measure => simp [intOf]; omega
  ·obtain rfl:k=l.length:=by omega
   go_wp2_with fail
   go_ret
   exact⟨ret_int (by rw [HR.out]),B1.out⟩
end
end Go.Proofs.YtmpigdokghngiaaGreat
