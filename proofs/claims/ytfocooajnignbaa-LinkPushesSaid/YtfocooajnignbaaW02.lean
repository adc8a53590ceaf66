/-
 TEXTS OF THE PROOF, one behind the other: IdRef, ValMay, ValPut, ValTake, ValRtake.
-/
import Derived.Test.YtfocooajnignbaaW01
import Derived.Laws.IdiomStrings
import Derived.Deep.RegionHeld

set_option maxHeartbeats 12800000
set_option maxRecDepth 100000

namespace Go.Proofs.Ytfocooajnignbaa
section
open Go.RowKit

theorem ris_any (l:List UInt8) (hl:l.length≤4294967296) (w:World) :
  Calls Try.prog 15 #[.string ⟨l.toArray⟩] w fun e w' => e=.returned (.bool (idIs l))∧w=w':=by
 by_cases h0:l.length < 1
 ·obtain rfl:l=[]:=List.length_eq_zero_iff.1 (by omega)
  clear h0
  go_enter Try.func15,Try.ntmps15
  go_wp2_with fail
  go_ret
  exact⟨rfl,rfl⟩
 ·have hpos:1≤l.length:=by omega
  clear h0
  by_cases h16:16 < l.length
  ·have HR:=hZq (idIs_long h16)
   go_enter Try.func15,Try.ntmps15
   go_wp2_with fail
   go_ret
   exact⟨by rw [HR.out]; rfl,rfl⟩
  ·have hq:0 < (⟨l.toArray⟩ : ByteArray).size:=by rw [size_bytes]; omega
   obtain⟨x,hx⟩ : ∃ x:UInt8,(⟨l.toArray⟩ : ByteArray)[0]'hq=x:=⟨_,rfl⟩
   have hx256:=x.toNat_lt
   have HX:Hid (l[0]?=some x):=by show _=_; rw [← hx]; exact bytes_at l 0 hq
   by_cases hlow:x.toNat < 97
   ·have HR:Hid (idIs l=false):=idIs_first HX.out (by unfold lcOk; simp; omega)
    go_enter Try.func15,Try.ntmps15
    go_wp2_with fail
    go_ret
    exact⟨by rw [HR.out]; rfl,rfl⟩
   ·by_cases hhi:122 < x.toNat
    ·have HR:Hid (idIs l=false):=idIs_first HX.out (by unfold lcOk; simp; omega)
     go_enter Try.func15,Try.ntmps15
     go_wp2_with fail
     go_ret
     exact⟨by rw [HR.out]; rfl,rfl⟩
    ·have HF:Hid (lcOk (l.getD 0 0)=true):=by show _=_; rw [List.getD,HX.out]; unfold lcOk; simp; omega
     go_enter Try.func15,Try.ntmps15
     go_wp2_with fail
     clear hx
     go_loop [3] (fun i => ∃ k:Nat,k≤l.length∧i=.int .i64 k∧Hid ((l.take k).all inOk=true)) (fun i => l.length - (intOf i).toNat)
     case atStart => exact⟨0,by omega,rfl,by show _=_; simp⟩
     case round =>
      obtain⟨k,hk,rfl,HA⟩:=hrel
      by_cases hlt:k < l.length
      ·have hlt':k < (⟨l.toArray⟩ : ByteArray).size:=by rw [size_bytes]; exact hlt
       obtain⟨b,hb⟩ : ∃ b:UInt8,(⟨l.toArray⟩ : ByteArray)[k]'hlt'=b:=⟨_,rfl⟩
       have HB:Hid (l[k]?=some b):=by show _=_; rw [← hb]; exact bytes_at l k hlt'
       have hb256:=b.toNat_lt
       have hcase:(97≤b.toNat∧b.toNat≤122)∨(48≤b.toNat∧b.toNat≤57)∨b.toNat=45∨(b.toNat < 48∧¬ b.toNat=45)∨(57 < b.toNat∧b.toNat < 97)∨122 < b.toNat:=by omega
       have HC:=hZq hcase
       clear hcase hpos h16 hlow hhi
       rcases HC.out with ⟨h1,h2⟩ | ⟨h1,h2⟩ | h1 | ⟨h1,h2⟩ | ⟨h1,h2⟩ | h1
       ·have HN:Hid ((l.take (k+1)).all inOk=true):=by show _=_; rw [all_succ HB.out,HA.out]; simp [inOk,lcOk,dgOk]; omega
        go_wp2_with fail
        go_round
        case rel => exact⟨k+1,by omega,by go_num,HN⟩
        case measure => simp [intOf]; omega
       ·have HN:Hid ((l.take (k+1)).all inOk=true):=by show _=_; rw [all_succ HB.out,HA.out]; simp [inOk,lcOk,dgOk]; omega
        go_wp2_with fail
        go_round
        case rel => exact⟨k+1,by omega,by go_num,HN⟩
        case measure => simp [intOf]; omega
       ·have HN:Hid ((l.take (k+1)).all inOk=true):=by show _=_; rw [all_succ HB.out,HA.out]; simp [inOk,lcOk,dgOk]; omega
        have t5:((b.toNat:Int) != 45)=false:=by rw [h1]; rfl
        go_wp2_with fail
        go_round
        case rel => exact⟨k+1,by omega,by go_num,HN⟩
        case measure => simp [intOf]; omega
       all_goals
        have HR:Hid (idIs l=false):=idIs_bad HB.out (by simp [inOk,lcOk,dgOk]; omega)
        have t5:((b.toNat:Int) != 45)=true:=by simp; omega
        go_wp2_with fail
        go_ret
        exact⟨by rw [HR.out]; rfl,rfl⟩
      ·obtain rfl:k=l.length:=by omega
       have HR:Hid (idIs l=true):=idIs_mk hpos (by omega) HF.out (by have:=HA.out; rwa [List.take_length] at this)
       go_wp2_with fail
       go_ret
       exact⟨by rw [HR.out]; rfl,rfl⟩

theorem ris_eq (l:List UInt8) (hl:l.length≤4294967296) {r:Bool} (h:Hid (idIs l=r)) (w:World) :
  Calls Try.prog 15 #[.string ⟨l.toArray⟩] w fun e w' => e=.returned (.bool r)∧w=w':=by
 have:=ris_any l hl w
 rwa [h.out] at this

def lowAt (l:List UInt8) (k:Nat):List UInt8:=idLow (l.take k) ++ l.drop k

def RowB (w:World) (B:Nat) (u:List UInt8):Prop:=∀ j,j < u.length→w.cell? ⟨B,j,none⟩=some (.int .u8 (u.getD j 0).toNat)∧w.frozen? ⟨B,j,none⟩=false

theorem RowB.drew {w:World} {B:Nat} {u:List UInt8} (h:RowB w B u):RowB w.drew B u:=h

theorem RowB.set {w:World} {B:Nat} {u:List UInt8} (h:RowB w B u) (j:Nat) (b:UInt8) (hj:j < u.length):RowB (w.setCell ⟨B,j,none⟩ (.int .u8 b.toNat)) B (u.set j b):=by
 intro i hi
 have hi':i < u.length:=by simpa using hi
 refine ⟨?_,(World.frozen?_setCell w _ _ _).trans (h i hi').2⟩
 by_cases hij:i=j
 ·subst hij
  rw [World.cell?_setCell_same _ _ _ (h i hj).1]
  simp [List.getD,hj]
 ·rw [World.cell?_setCell_other _ _ _ _ (by simp),(h i hi').1]
  simp [List.getD,show ¬ j=i by omega]
end
section
open Go.RowKit

theorem chOk_lo {b:UInt8} (h:b.toNat < 32):chOk b=false:=by unfold chOk; simp; omega
theorem chOk_hi {b:UInt8} (h:126 < b.toNat):chOk b=false:=by unfold chOk; simp; omega
theorem chOk_yes {b:UInt8} (h:¬ b.toNat < 32) (h':¬ 126 < b.toNat):chOk b=true:=by unfold chOk; simp; omega

theorem all_take_succ {l:List UInt8} {k:Nat} {b:UInt8} (hb:l[k]?=some b) (p:UInt8→Bool):(l.take (k+1)).all p=((l.take k).all p && p b):=by
 obtain⟨h1,h2⟩:=List.getElem?_eq_some_iff.1 hb
 rw [List.take_succ_eq_append_getElem h1,h2,List.all_append]
 simp

theorem all_no {l:List UInt8} {k:Nat} {b:UInt8} (hb:l[k]?=some b) {p:UInt8→Bool} (h:p b=false):l.all p=false:=by
 obtain⟨h1,h2⟩:=List.getElem?_eq_some_iff.1 hb
 rw [Bool.eq_false_iff]
 intro h'
 have:=List.all_eq_true.1 h' l[k] (List.getElem_mem h1)
 rw [h2,h] at this
 cases this

theorem stat_any (l:List UInt8) (hl:l.length≤4294967296) (w:World) :
  Calls Try.prog 47 #[.string ⟨l.toArray⟩] w fun e w' => e=.returned (.bool (stOk l))∧w=w':=by
 by_cases h:32 < l.length
 ·have HR:Hid (stOk l=false):=by show _=_; unfold stOk; simp; omega
  go_enter Try.func47,Try.ntmps47
  go_wp2_with fail
  go_ret
  exact⟨by rw [HR.out]; rfl,rfl⟩
 ·have h32:decide (l.length≤32)=true:=by simp; omega
  have H32:=hZq h32
  clear h32
  go_enter Try.func47,Try.ntmps47
  go_wp2_with fail
  go_loop [9] (fun i => ∃ k:Nat,k≤l.length∧i=.int .i64 k∧Hid ((l.take k).all chOk=true)) (fun i => l.length - (intOf i).toNat)
  case atStart => exact⟨0,by omega,rfl,by show _=_; simp⟩
  case round =>
   obtain⟨k,hk,rfl,HA⟩:=hrel
   by_cases hlt:k < l.length
   ·have hlt':k < (⟨l.toArray⟩ : ByteArray).size:=by rw [size_bytes]; exact hlt
    obtain⟨b,hb⟩ : ∃ b:UInt8,(⟨l.toArray⟩ : ByteArray)[k]'hlt'=b:=⟨_,rfl⟩
    have HB:Hid (l[k]?=some b):=by rw [← hb]; exact bytes_at l k hlt'
    have h256:=b.toNat_lt
    by_cases h1:b.toNat < 32
    ·have HN:Hid (stOk l=false):=by show _=_; unfold stOk; rw [all_no HB.out (chOk_lo h1)]; simp
     go_wp2_with fail
     go_ret
     exact⟨by rw [HN.out]; rfl,rfl⟩
    ·by_cases h2:126 < b.toNat
     ·have HN:Hid (stOk l=false):=by show _=_; unfold stOk; rw [all_no HB.out (chOk_hi h2)]; simp
      go_wp2_with fail
      go_ret
      exact⟨by rw [HN.out]; rfl,rfl⟩
     ·have HN:Hid ((l.take (k+1)).all chOk=true):=by show _=_; rw [all_take_succ HB.out,HA.out,chOk_yes h1 h2]; rfl
      go_wp2_with fail
      go_round
      case rel => exact⟨k+1,by omega,by go_num,HN⟩
      case measure => simp [intOf]; omega
   ·obtain rfl:k=l.length:=by omega
    have HR:Hid (stOk l=true):=by
     show _=_
     have:=HA.out
     rw [List.take_length] at this
     unfold stOk
     rw [this,H32.out]
     rfl
    go_wp2_with fail
    go_ret
    exact⟨by rw [HR.out]; rfl,rfl⟩

def numsV (a b c:Int) (l:List UInt8):Value:=.agg #[.int .i64 a,.int .i64 b,.int .i64 c,.string ⟨l.toArray⟩]

theorem numsOk_cases (a b c:Int):(numsOk a b c=true∧1≤a∧a≤4∧-128≤b∧b≤127∧0≤c∧c≤1099511627776) ∨
  (numsOk a b c=false∧(a < 1∨(1≤a∧4 < a)∨(1≤a∧a≤4∧b < -128)∨(1≤a∧a≤4∧-128≤b∧127 < b)∨(1≤a∧a≤4∧-128≤b∧b≤127∧c < 0)∨(1≤a∧a≤4∧-128≤b∧b≤127∧0≤c∧1099511627776 < c))):=by
 unfold numsOk
 by_cases h:1≤a∧a≤4∧-128≤b∧b≤127∧0≤c∧c≤1099511627776
 ·exact .inl ⟨by simpa using h,h⟩
 ·exact .inr ⟨by simpa using h,by omega⟩

theorem may_any (a b c:Int) (l:List UInt8) (hl:l.length≤4294967296) (w:World) :
  Calls Try.prog 30 #[.agg #[.int .i64 a,.int .i64 b,.int .i64 c,.string ⟨l.toArray⟩]] w fun e w' => e=.returned (.bool (vaMay ⟨a,b,c,l⟩))∧Below w.heap.size w w':=by
 rcases numsOk_cases a b c with ⟨h,h1,h2,h3,h4,h5,h6⟩ | ⟨h,hor⟩
 ·have HR:Hid (vaMay ⟨a,b,c,l⟩=stOk l):=by show _=_; unfold vaMay; simp only; rw [h]; rfl
  clear h
  go_enter Try.func30,Try.ntmps30
  go_wp2_with fail
  refine (stat_any l hl _).mono ?_
  rintro e w' ⟨rfl,rfl⟩
  go_wp2_with fail
  go_ret
  exact⟨by rw [HR.out]; rfl,(Below.refl _ _).alloc (Nat.le_refl _) _⟩
 ·have HR:Hid (vaMay ⟨a,b,c,l⟩=false):=by show _=_; unfold vaMay; simp only; rw [h]; rfl
  clear h
  rcases hor with h1 | ⟨h1,h2⟩ | ⟨h1,h2,h3⟩ | ⟨h1,h2,h3,h4⟩ | ⟨h1,h2,h3,h4,h5⟩ | ⟨h1,h2,h3,h4,h5,h6⟩
  all_goals
   go_enter Try.func30,Try.ntmps30
   go_wp2_with fail
   go_ret
   exact⟨by rw [HR.out]; rfl,(Below.refl _ _).alloc (Nat.le_refl _) _⟩

theorem rmay_any (a b c:Int) (l:List UInt8) (hl:l.length≤4294967296) (w:World) :
  Calls Try.prog 16 #[.agg #[.int .i64 a,.int .i64 b,.int .i64 c,.string ⟨l.toArray⟩]] w fun e w' => e=.returned (.bool (vaMay ⟨a,b,c,l⟩))∧Below w.heap.size w w':=by
 rcases numsOk_cases a b c with ⟨h,h1,h2,h3,h4,h5,h6⟩ | ⟨h,hor⟩
 ·have HM:Hid (vaMay ⟨a,b,c,l⟩=stOk l):=by show _=_; unfold vaMay; simp only; rw [h]; rfl
  clear h
  by_cases h:32 < l.length
  ·have HR:Hid (vaMay ⟨a,b,c,l⟩=false):=by show _=_; rw [HM.out]; unfold stOk; simp; omega
   clear HM
   go_enter Try.func16,Try.ntmps16
   go_wp2_with fail
   go_ret
   exact⟨by rw [HR.out]; rfl,(Below.refl _ _).alloc (Nat.le_refl _) _⟩
  ·have h32:decide (l.length≤32)=true:=by simp; omega
   have H32:=hZq h32
   clear h32
   go_enter Try.func16,Try.ntmps16
   go_wp2_with fail
   go_loop [3] (fun i => ∃ k:Nat,k≤l.length∧i=.int .i64 k∧Hid ((l.take k).all chOk=true)) (fun i => l.length - (intOf i).toNat)
   case atStart => exact⟨0,by omega,rfl,by show _=_; simp⟩
   case round =>
    obtain⟨k,hk,rfl,HA⟩:=hrel
    by_cases hlt:k < l.length
    ·have hlt':k < (⟨l.toArray⟩ : ByteArray).size:=by rw [size_bytes]; exact hlt
     obtain⟨b,hb⟩ : ∃ b:UInt8,(⟨l.toArray⟩ : ByteArray)[k]'hlt'=b:=⟨_,rfl⟩
     have HB:Hid (l[k]?=some b):=by rw [← hb]; exact bytes_at l k hlt'
     have h256:=b.toNat_lt
     by_cases h1:b.toNat < 32
     ·have HN:Hid (stOk l=false):=by show _=_; unfold stOk; rw [all_no HB.out (chOk_lo h1)]; simp
      go_wp2_with fail
      go_ret
      exact⟨by rw [HM.out,HN.out]; rfl,(Below.refl _ _).alloc (Nat.le_refl _) _⟩
     ·by_cases h2:126 < b.toNat
      ·have HN:Hid (stOk l=false):=by show _=_; unfold stOk; rw [all_no HB.out (chOk_hi h2)]; simp
       go_wp2_with fail
       go_ret
       exact⟨by rw [HM.out,HN.out]; rfl,(Below.refl _ _).alloc (Nat.le_refl _) _⟩
      ·have HN:Hid ((l.take (k+1)).all chOk=true):=by show _=_; rw [all_take_succ HB.out,HA.out,chOk_yes h1 h2]; rfl
       go_wp2_with fail
       go_round
       case rel => exact⟨k+1,by omega,by go_num,HN⟩
       case measure => simp [intOf]; omega
    ·obtain rfl:k=l.length:=by omega
     have HR:Hid (stOk l=true):=by
      show _=_
      have:=HA.out
      rw [List.take_length] at this
      unfold stOk
      rw [this,H32.out]
      rfl
     go_wp2_with fail
     go_ret
     exact⟨by rw [HM.out,HR.out]; rfl,(Below.refl _ _).alloc (Nat.le_refl _) _⟩
 ·have HR:Hid (vaMay ⟨a,b,c,l⟩=false):=by show _=_; unfold vaMay; simp only; rw [h]; rfl
  clear h
  rcases hor with h1 | ⟨h1,h2⟩ | ⟨h1,h2,h3⟩ | ⟨h1,h2,h3,h4⟩ | ⟨h1,h2,h3,h4,h5⟩ | ⟨h1,h2,h3,h4,h5,h6⟩
  all_goals
   go_enter Try.func16,Try.ntmps16
   go_wp2_with fail
   go_ret
   exact⟨by rw [HR.out]; rfl,(Below.refl _ _).alloc (Nat.le_refl _) _⟩
end
section
open Go.RowKit
attribute [local go_sem] ByteArray.mk_append_mk

def vaPut (v:Val):List UInt8:=if vaMay v=true then vaBytes v else []

theorem cell_later {w w':World} {a:Addr} {v:Value} (h:w.cell? a=some v) (hb:Below w.heap.size w w'):w'.cell? a=some v :=
 (hb.cell (World.block_lt_of_cell? w a h)).trans h

theorem head_vals (a b:Int) (ha:1≤a) (ha':a≤4) (hb:-128≤b) (hb':b≤127):#[Value.int IntKind.u8 a,Value.int IntKind.u8 (b+128)]=(bvals [u8of a.toNat,u8of (b+128).toNat]).toArray:=by
 simp only [bvals,List.map_cons,List.map_nil]
 rw [u8of_toNat (by omega),u8of_toNat (by omega),show ((a.toNat:Nat):Int)=a by omega,show (((b+128).toNat:Nat):Int)=b+128 by omega]

theorem may_eq (a b c:Int) (l:List UInt8) (hl:l.length≤4294967296) {r:Bool} (h:Hid (vaMay ⟨a,b,c,l⟩=r)) (w:World) :
  Calls Try.prog 30 #[.agg #[.int .i64 a,.int .i64 b,.int .i64 c,.string ⟨l.toArray⟩]] w fun e w' => e=.returned (.bool r)∧Below w.heap.size w w':=by
 have:=may_any a b c l hl w
 rwa [h.out] at this

theorem rmay_eq (a b c:Int) (l:List UInt8) (hl:l.length≤4294967296) {r:Bool} (h:Hid (vaMay ⟨a,b,c,l⟩=r)) (w:World) :
  Calls Try.prog 16 #[.agg #[.int .i64 a,.int .i64 b,.int .i64 c,.string ⟨l.toArray⟩]] w fun e w' => e=.returned (.bool r)∧Below w.heap.size w w':=by
 have:=rmay_any a b c l hl w
 rwa [h.out] at this

theorem regrown_below {w w':World} (h:∃ p:Regrown,w'=Sort.grow (redrawn w p.d) p.os):Below w.heap.size w w':=by
 obtain⟨p,rfl⟩:=h
 exact below_regrown _ _ _

theorem four_cells (w:World) (a b c s:Value) (t:TypeId):(w.alloc (.cells #[a,b,c,s] t)).cell? ⟨w.heap.size,0,none⟩=some a∧(w.alloc (.cells #[a,b,c,s] t)).cell? ⟨w.heap.size,1,none⟩=some b∧(w.alloc (.cells #[a,b,c,s] t)).cell? ⟨w.heap.size,2,none⟩=some c∧(w.alloc (.cells #[a,b,c,s] t)).cell? ⟨w.heap.size,3,none⟩=some s :=
 ⟨by rw [World.cell?_alloc_at _ _ _ _ rfl]; rfl,by rw [World.cell?_alloc_at _ _ _ _ rfl]; rfl,by rw [World.cell?_alloc_at _ _ _ _ rfl]; rfl,by rw [World.cell?_alloc_at _ _ _ _ rfl]; rfl⟩

theorem vaput_yes (a b c:Int) (l:List UInt8) (hm:vaMay ⟨a,b,c,l⟩=true) (w:World) :
  Calls Try.prog 64 #[.agg #[.int .i64 a,.int .i64 b,.int .i64 c,.string ⟨l.toArray⟩]] w fun e w' => e=.returned (.tuple #[.string ⟨(vaBytes ⟨a,b,c,l⟩).toArray⟩,.bool true])∧Below w.heap.size w w':=by
 obtain⟨h1,h2,h3,h4,h5,h6,h7⟩:=vaMay_parts hm
 simp only at h1 h2 h3 h4 h5 h6 h7
 obtain⟨n,rfl⟩:=Int.eq_ofNat_of_zero_le h5
 have hl:l.length≤4294967296:=by omega
 have HM:=may_eq a b n l hl (hZq hm)
 have HM':=hZq HM
 have HP:=hZq (put_any n (by omega))
 have HT:=hZq (text_any l hl)
 have hcv:=fun w => run_convert_new (P:=Try.prog) w 105 5 9 Try.underlying105 Try.underlying5 Try.underlying9 _ _ (head_vals a b h1 h2 h3 h4) 2 rfl (by decide)
 have HV:Hid (vaBytes ⟨a,b,n,l⟩=[u8of a.toNat,u8of (b+128).toNat] ++ (vput n ++ (vput l.length ++ l))):=rfl
 have hz0:(0:Int)≤n:=by omega
 obtain⟨k0,k1,k2,k3⟩:=four_cells w (.int .i64 a) (.int .i64 b) (.int .i64 n) (.string ⟨l.toArray⟩) 40
 have HK0:=hZq k0
 have HK1:=hZq k1
 have HK2:=hZq k2
 have HK3:=hZq k3
 obtain⟨hd,hhd⟩ : ∃ hd,hd=[u8of a.toNat,u8of (b+128).toNat]:=⟨_,rfl⟩
 rw [← hhd] at hcv HV
 have hdl:hd.length≤2:=by rw [hhd]; simp
 have hvn:=vput_len_le n
 have hvl:=vput_len_le l.length
 clear hhd hm HM k0 k1 k2 k3 h5
 go_enter Try.func64,Try.ntmps64
 go_wp2_with fail
 refine (HM'.out _).mono ?_
 rintro e w1 ⟨rfl,hb1⟩
 have k0:=cell_later HK0.out hb1
 have k1:=cell_later HK1.out hb1
 have k2:=cell_later HK2.out hb1
 have k3:=cell_later HK3.out hb1
 have hsz1:w.heap.size+1≤w1.heap.size:=by have:=hb1.size; simpa using this
 have HB1:Hid (Below w.heap.size w w1):=below2' ((Below.refl _ _).alloc (Nat.le_refl _) _) hb1
 have HK2':=hZq k2
 have HK3':=hZq k3
 clear HK0 HK1 HK2 HK3 hb1
 go_wp2_with fail
 have r2:=cell_regrown (w:=w1.alloc (.cells #[.int .u8 a,.int .u8 (b+128)] 5)) (a:=⟨w.heap.size,2,none⟩) (v:=.int .i64 n) (by rw [World.cell?_alloc_lt _ _ _ (by show w.heap.size < w1.heap.size; omega)]; exact HK2'.out)
 have r3:=cell_regrown (w:=w1.alloc (.cells #[.int .u8 a,.int .u8 (b+128)] 5)) (a:=⟨w.heap.size,3,none⟩) (v:=.string ⟨l.toArray⟩) (by rw [World.cell?_alloc_lt _ _ _ (by show w.heap.size < w1.heap.size; omega)]; exact HK3'.out)
 clear k0 k1 k2 k3 hcv
 refine wp_region_quiet_below (by kernel_rfl) (by kernel_rfl) ?_
 repeat (go_big_quiet_step (first | with_reducible exact rgB HP.out _ _ _ | with_reducible exact rgB HT.out _ _ _))
 refine wpQuiet_nil ?_
 intro w3 hw3
 have hb3:=regrown_below hw3
 have HB3:Hid (Below w.heap.size w w3):=below3 HB1.out ((Below.refl _ _).alloc (Nat.le_refl _) _) hb3
 clear hw3 hb3 r2 r3
 go_wp2_with fail
 go_ret2
 exact⟨by rw [HV.out]; rfl,HB3.out⟩

theorem bl_alloc {w a:World} (h:Below w.heap.size w a) (o:Obj):Below w.heap.size w (a.alloc o):=h.alloc h.size o

theorem vaput_no (a b c:Int) (l:List UInt8) (hl:l.length≤4294967296) (hm:vaMay ⟨a,b,c,l⟩=false) (w:World) :
  Calls Try.prog 64 #[.agg #[.int .i64 a,.int .i64 b,.int .i64 c,.string ⟨l.toArray⟩]] w fun e w' => e=.returned (.tuple #[.string ⟨([]:List UInt8).toArray⟩,.bool false])∧Below w.heap.size w w':=by
 have HM':=hZq (may_eq a b c l hl (hZq hm))
 clear hm
 go_enter Try.func64,Try.ntmps64
 go_wp2_with fail
 refine (HM'.out _).mono ?_
 rintro e w1 ⟨rfl,hb1⟩
 go_wp2_with fail
 go_ret2
 exact⟨rfl,below2' ((Below.refl _ _).alloc (Nat.le_refl _) _) hb1⟩

theorem vaput_any (a b c:Int) (l:List UInt8) (hl:l.length≤4294967296) {t:List UInt8} {r:Bool} (ht:Hid (vaPut ⟨a,b,c,l⟩=t)) (hr:Hid (vaMay ⟨a,b,c,l⟩=r)) (w:World) :
  Calls Try.prog 64 #[.agg #[.int .i64 a,.int .i64 b,.int .i64 c,.string ⟨l.toArray⟩]] w fun e w' => e=.returned (.tuple #[.string ⟨t.toArray⟩,.bool r])∧Below w.heap.size w w':=by
 have h1:=ht.out
 have h2:=hr.out
 unfold vaPut at h1
 cases r with
 | true => rw [if_pos h2] at h1; rw [← h1]; exact vaput_yes a b c l h2 w
 | false => rw [if_neg (by rw [h2]; decide)] at h1; rw [← h1]; exact vaput_no a b c l hl h2 w
end
section
open Go.RowKit

def tripleV (a b c:Int) (t:List UInt8) (f er:Nat):Value:=.tuple #[.agg #[.int .i64 a,.int .i64 b,.int .i64 c,.string ⟨t.toArray⟩],.int .i64 f,.int .i64 er]

def valV (v:Val):Value:=.agg #[.int .i64 v.sh,.int .i64 v.pr,.int .i64 v.si,.string ⟨v.st.toArray⟩]

def tripleW (r:Val × Nat × Nat):Value:=.tuple #[valV r.1,.int .i64 r.2.1,.int .i64 r.2.2]

def set4 (w:World) (B:Nat) (a b c d:Value):World:=(((w.setCell ⟨B,0,none⟩ a).setCell ⟨B,1,none⟩ b).setCell ⟨B,2,none⟩ c).setCell ⟨B,3,none⟩ d
end
section
open Go.RowKit
end
end Go.Proofs.Ytfocooajnignbaa
