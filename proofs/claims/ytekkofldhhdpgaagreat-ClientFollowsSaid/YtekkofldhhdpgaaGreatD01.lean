/-
 TEXTS OF THE PROOF, one behind the other: VarPure, IdPure, ValPure, DigPure, QuePure, Kit, VarPut, VarGet, VarRget.
-/
import Derived.Lib.Bytealg
import Derived.Sort.Statements
import Derived.Shelf.SlSortCmp.Insertion
import Derived.Lib.SlicesCompact
import Derived.WalkKit
import Derived.BigQuiet
import Derived.Lib.QuietBelow
import Derived.Test.YtekkofldhhdpgaaGreatRows
import Derived.Deep.DeepMust
import Derived.Lib.Hide
import Derived.Below

set_option maxHeartbeats 12800000
set_option maxRecDepth 100000

namespace Go.Proofs.YtekkofldhhdpgaaGreat
theorem hZq {p:Prop} (h:p):RowKit.Hid p:=h
end Go.Proofs.YtekkofldhhdpgaaGreat

section

namespace Go.Proofs.YtekkofldhhdpgaaGreat

def u8of (n:Nat):UInt8:=UInt8.ofNat n

def vputF:Nat→Nat→List UInt8
 | 0,n => [u8of n]
 | k+1,n => if n < 128 then [u8of n] else u8of (n % 128+128) :: vputF k (n / 128)

def vput (n:Nat):List UInt8:=vputF 9 n

theorem vputF_lt {k n:Nat} (h:n < 128):vputF k n=[u8of n]:=by
 cases k <;> simp [vputF,h]

theorem vputF_succ:∀ (k n:Nat),n < 128 ^ (k+1)→vputF (k+1) n=vputF k n
 | 0,n,h => by
  have h':n < 128:=by simpa using h
  rw [vputF_lt h',vputF_lt h']
 | k+1,n,h => by
  by_cases h1:n < 128
  ·rw [vputF_lt h1,vputF_lt h1]
  ·rw [vputF,if_neg h1,vputF_succ k (n / 128) (by rw [Nat.pow_succ] at h; omega)]
   conv => rhs; rw [vputF,if_neg h1]

theorem vput_lt {n:Nat} (h:n < 128):vput n=[u8of n]:=vputF_lt h

theorem vput_ge {n:Nat} (h:128≤n) (hn:n < 18446744073709551616):vput n=u8of (n % 128+128) :: vput (n / 128):=by
 unfold vput
 rw [vputF,if_neg (by omega),vputF_succ 8 (n / 128) (by simp; omega)]

theorem vputF_len_le:∀ (k n:Nat),(vputF k n).length≤k+1
 | 0,n => by simp [vputF]
 | k+1,n => by
  unfold vputF
  split
  ·simp
  ·have:=vputF_len_le k (n / 128)
   simp; omega

theorem vput_len_le (n:Nat):(vput n).length≤10:=vputF_len_le 9 n

theorem vputF_len_pos (k n:Nat):1≤(vputF k n).length:=by
 cases k with
 | zero => simp [vputF]
 | succ k => unfold vputF; split <;> simp

theorem vput_len_pos (n:Nat):1≤(vput n).length:=vputF_len_pos 9 n

def vgetF (i:Nat):List UInt8→Nat × Nat × Nat
 | [] => (0,0,2)
 | b :: r =>
  if i=9∧1 < b.toNat then (0,0,3)
  else if b.toNat < 128 then (if b.toNat=0∧0 < i then (0,0,3) else (b.toNat,1,0))
  else
   if (vgetF (i+1) r).2.2=0 then (b.toNat % 128+128 * (vgetF (i+1) r).1,(vgetF (i+1) r).2.1+1,0)
   else (0,0,(vgetF (i+1) r).2.2)

def vget (s:List UInt8) (at':Int):Nat × Nat × Nat :=
 if at' < 0∨(s.length:Int) < at' then (0,0,1)
 else
  if (vgetF 0 (s.drop at'.toNat)).2.2=0 then ((vgetF 0 (s.drop at'.toNat)).1,at'.toNat+(vgetF 0 (s.drop at'.toNat)).2.1,0)
  else (0,0,(vgetF 0 (s.drop at'.toNat)).2.2)

theorem vgetF_err (i:Nat):∀ l:List UInt8,(vgetF i l).2.2=0∨vgetF i l=(0,0,2)∨vgetF i l=(0,0,3):=by
 intro l
 induction l generalizing i with
 | nil => simp [vgetF]
 | cons b r ih =>
  unfold vgetF
  split
  ·simp
  ·split
   ·split <;> simp
   ·rcases ih (i+1) with h | h | h
    ·rw [if_pos h]; simp
    ·rw [h]; simp
    ·rw [h]; simp

theorem vgetF_used (i:Nat):∀ l:List UInt8,(vgetF i l).2.2=0→1≤(vgetF i l).2.1∧(vgetF i l).2.1≤l.length:=by
 intro l
 induction l generalizing i with
 | nil => simp [vgetF]
 | cons b r ih =>
  unfold vgetF
  split
  ·simp
  ·split
   ·split <;> simp
   ·by_cases h:(vgetF (i+1) r).2.2=0
    ·have:=ih (i+1) h
     rw [if_pos h]; simp; omega
    ·rw [if_neg h]; simp [h]

theorem vgetF_bound (i:Nat) (hi:i≤9):∀ l:List UInt8,(vgetF i l).1 * 128 ^ i < 18446744073709551616:=by
 intro l
 induction l generalizing i with
 | nil => simp [vgetF]
 | cons b r ih =>
  have hb:=b.toNat_lt
  unfold vgetF
  split
  ·simp
  ·rename_i h9
   split
   ·rename_i hlt
    split
    ·simp
    ·simp only
     by_cases hi9:i=9
     ·subst hi9
      have:b.toNat≤1:=by omega
      have:=Nat.mul_le_mul_right (128 ^ 9) this
      refine Nat.lt_of_le_of_lt this (by decide)
     ·have h8:i≤8:=by omega
      have h1:b.toNat≤127:=by omega
      calc b.toNat * 128 ^ i≤127 * 128 ^ 8:=Nat.mul_le_mul h1 (Nat.pow_le_pow_right (by decide) h8)
       _ < 18446744073709551616:=by decide
   ·rename_i hge
    by_cases hi9:i=9
    ·exact absurd ⟨hi9,by omega⟩ h9
    ·have ih':=ih (i+1) (by omega)
     split
     ·simp only
      have hb2:b.toNat % 128≤127:=by omega
      rw [Nat.pow_succ] at ih'
      obtain⟨c,hc⟩ : ∃ c,18446744073709551616=c * (128 ^ i * 128):=by
       have hi8:i=0∨i=1∨i=2∨i=3∨i=4∨i=5∨i=6∨i=7∨i=8:=by omega
       rcases hi8 with rfl | rfl | rfl | rfl | rfl | rfl | rfl | rfl | rfl
       ·exact⟨2 ^ 57,by decide⟩
       ·exact⟨2 ^ 50,by decide⟩
       ·exact⟨2 ^ 43,by decide⟩
       ·exact⟨2 ^ 36,by decide⟩
       ·exact⟨2 ^ 29,by decide⟩
       ·exact⟨2 ^ 22,by decide⟩
       ·exact⟨2 ^ 15,by decide⟩
       ·exact⟨2 ^ 8,by decide⟩
       ·exact⟨2,by decide⟩
      rw [hc] at ih' ⊢
      have hlt:=Nat.lt_of_mul_lt_mul_right ih'
      rw [Nat.mul_comm (128 ^ i) 128,← Nat.mul_assoc]
      exact Nat.mul_lt_mul_of_pos_right (by omega) (Nat.pow_pos (by decide))
     ·simp

theorem u8of_toNat {n:Nat} (h:n < 256):(u8of n).toNat=n:=by
 simp [u8of,UInt8.toNat_ofNat']; omega

theorem u8of_of_toNat (b:UInt8):u8of b.toNat=b:=by
 simp [u8of]

theorem vgetF_vputF:∀ (k n i:Nat) (r:List UInt8),i+k=9→n * 128 ^ i < 18446744073709551616→(0 < i→0 < n) →
  vgetF i (vputF k n ++ r)=(n,(vputF k n).length,0)
 | 0,n,i,r,hk,hn,hp => by
  have hi:i=9:=by omega
  subst hi
  have h1:n≤1:=by simp at hn; omega
  have ht:(u8of n).toNat=n:=u8of_toNat (by omega)
  simp only [vputF,List.cons_append,List.nil_append,vgetF,ht]
  rw [if_neg (by omega),if_pos (by omega),if_neg (by omega)]
  simp
 | k+1,n,i,r,hk,hn,hp => by
  by_cases h:n < 128
  ·have ht:(u8of n).toNat=n:=u8of_toNat (by omega)
   rw [vputF_lt h]
   simp only [List.cons_append,List.nil_append,vgetF,ht]
   rw [if_neg (by omega),if_pos (by omega),if_neg (by omega)]
   simp
  ·have ht:(u8of (n % 128+128)).toNat=n % 128+128:=u8of_toNat (by omega)
   have ih:=vgetF_vputF k (n / 128) (i+1) r (by omega) (by
    refine Nat.lt_of_le_of_lt ?_ hn
    rw [Nat.pow_succ,Nat.mul_comm (128 ^ i) 128,← Nat.mul_assoc]
    exact Nat.mul_le_mul_right _ (Nat.div_mul_le_self n 128)) (fun _ => by omega)
   rw [vputF,if_neg h]
   simp only [List.cons_append,vgetF,ht,ih]
   rw [if_neg (by omega),if_neg (by omega),if_pos trivial]
   simp
   omega

theorem vget_vput (n:Nat) (hn:n < 18446744073709551616) (a r:List UInt8) :
  vget (a ++ (vput n ++ r)) (a.length:Int)=(n,a.length+(vput n).length,0):=by
 unfold vget vput
 rw [if_neg (by simp; omega)]
 have e:List.drop ((a.length:Int)).toNat (a ++ (vputF 9 n ++ r))=vputF 9 n ++ r:=by simp
 rw [e,vgetF_vputF 9 n 0 r rfl (by simpa using hn) (by simp)]
 simp

theorem vputF_vgetF:∀ (l:List UInt8) (k i:Nat),i+k=9→(vgetF i l).2.2=0→vputF k (vgetF i l).1=l.take (vgetF i l).2.1∧(0 < i→0 < (vgetF i l).1)
 | [],k,i,hk,h => by simp [vgetF] at h
 | b :: r,k,i,hk,h => by
  have hb:=b.toNat_lt
  unfold vgetF at h ⊢
  by_cases h9:i=9∧1 < b.toNat
  ·rw [if_pos h9] at h; simp at h
  ·rw [if_neg h9] at h ⊢
   by_cases hlt:b.toNat < 128
   ·rw [if_pos hlt] at h ⊢
    by_cases h0:b.toNat=0∧0 < i
    ·rw [if_pos h0] at h; simp at h
    ·rw [if_neg h0]
     simp only
     rw [vputF_lt hlt,u8of_of_toNat]
     exact⟨by simp,fun _ => by omega⟩
   ·rw [if_neg hlt] at h ⊢
    by_cases he:(vgetF (i+1) r).2.2=0
    ·rw [if_pos he]
     cases k with
     | zero => exact absurd ⟨by omega,by omega⟩ h9
     | succ k =>
      have ih:=vputF_vgetF r k (i+1) (by omega) he
      have hp:=ih.2 (by omega)
      simp only
      have hge:¬ b.toNat % 128+128 * (vgetF (i+1) r).1 < 128:=by omega
      rw [vputF,if_neg hge]
      have e1:(b.toNat % 128+128 * (vgetF (i+1) r).1) % 128+128=b.toNat:=by omega
      have e2:(b.toNat % 128+128 * (vgetF (i+1) r).1) / 128=(vgetF (i+1) r).1:=by omega
      rw [e1,e2,ih.1,u8of_of_toNat]
      exact⟨by simp,fun _ => by omega⟩
    ·rw [if_neg he] at h; exact absurd h he

def comb (i acc:Nat) (r:Nat × Nat × Nat):Nat × Nat × Nat:=if r.2.2=0 then (acc+128 ^ i * r.1,i+r.2.1,0) else (0,0,r.2.2)

def GetAt (l:List UInt8) (q i acc p sh:Nat):Prop:=acc < 128 ^ i∧p=q+i∧sh=7 * i∧comb i acc (vgetF i (l.drop p))=vgetF 0 (l.drop q)

theorem getAt_start (l:List UInt8) (q:Nat):GetAt l q 0 0 q 0:=by
 refine ⟨by simp,rfl,rfl,?_⟩
 unfold comb
 rcases vgetF_err 0 (l.drop q) with h | h | h
 ·rw [if_pos h]
  exact Prod.ext (by simp) (Prod.ext (by simp) h.symm)
 ·rw [h]; simp
 ·rw [h]; simp

theorem vget_in {l:List UInt8} {q:Nat} (hq:q≤l.length) {r:Nat × Nat × Nat} (h:vgetF 0 (l.drop q)=r) :
  vget l q=if r.2.2=0 then (r.1,q+r.2.1,0) else (0,0,r.2.2):=by
 unfold vget
 rw [if_neg (by omega)]
 simp only [Int.toNat_natCast,h]

theorem getAt_end {l:List UInt8} {q i acc p sh:Nat} (h:GetAt l q i acc p sh) (hq:q≤l.length) (hp:p=l.length):vget l q=(0,0,2):=by
 have e:vgetF 0 (l.drop q)=(0,0,2):=by
  rw [← h.2.2.2,hp]
  simp [vgetF,comb]
 rw [vget_in hq e]
 simp

theorem drop_at {l:List UInt8} {p:Nat} {b:UInt8} (hb:l[p]?=some b):l.drop p=b :: l.drop (p+1):=by
 obtain⟨h,hb'⟩:=List.getElem?_eq_some_iff.1 hb
 rw [List.drop_eq_getElem_cons h,hb']

theorem getAt_form {l:List UInt8} {q i acc p sh:Nat} {b:UInt8} (h:GetAt l q i acc p sh) (hq:q≤l.length) (hb:l[p]?=some b)
  (hc:(i=9∧1 < b.toNat)∨(b.toNat < 128∧b.toNat=0∧0 < i)):vget l q=(0,0,3):=by
 have e:vgetF 0 (l.drop q)=(0,0,3):=by
  rw [← h.2.2.2,drop_at hb]
  unfold vgetF
  rcases hc with h1 | ⟨h1,h2⟩
  ·rw [if_pos h1]; simp [comb]
  ·by_cases h3:i=9∧1 < b.toNat
   ·rw [if_pos h3]; simp [comb]
   ·rw [if_neg h3,if_pos h1,if_pos h2]; simp [comb]
 rw [vget_in hq e]
 simp

theorem getAt_last {l:List UInt8} {q i acc p sh:Nat} {b:UInt8} (h:GetAt l q i acc p sh) (hq:q≤l.length) (hb:l[p]?=some b)
  (h1:¬ (i=9∧1 < b.toNat)) (h2:b.toNat < 128) (h3:¬ (b.toNat=0∧0 < i)):vget l q=(acc+b.toNat % 128 * 128 ^ i,p+1,0):=by
 have e:vgetF 0 (l.drop q)=(acc+b.toNat % 128 * 128 ^ i,i+1,0):=by
  rw [← h.2.2.2,drop_at hb]
  unfold vgetF
  rw [if_neg h1,if_pos h2,if_neg h3]
  simp only [comb,if_pos]
  rw [Nat.mod_eq_of_lt h2,Nat.mul_comm]
 rw [vget_in hq e]
 have:=h.2.1
 simp
 omega

theorem getAt_next {l:List UInt8} {q i acc p sh:Nat} {b:UInt8} (h:GetAt l q i acc p sh) (hb:l[p]?=some b)
  (h1:¬ (i=9∧1 < b.toNat)) (h2:¬ b.toNat < 128):GetAt l q (i+1) (acc+b.toNat % 128 * 128 ^ i) (p+1) (sh+7):=by
 obtain⟨ha,hp,hs,hc⟩:=h
 refine ⟨?_,by omega,by omega,?_⟩
 ·have:b.toNat % 128 * 128 ^ i≤127 * 128 ^ i:=Nat.mul_le_mul_right _ (by omega)
  rw [Nat.pow_succ]
  omega
 ·rw [← hc,drop_at hb]
  conv => rhs; unfold vgetF
  rw [if_neg h1,if_neg h2]
  unfold comb
  by_cases he:(vgetF (i+1) (l.drop (p+1))).2.2=0
  ·simp only [if_pos he]
   simp only [if_true]
   refine Prod.ext ?_ (Prod.ext ?_ rfl)
   ·show acc+b.toNat % 128 * 128 ^ i+128 ^ (i+1) * _=acc+128 ^ i * (b.toNat % 128+128 * _)
    rw [Nat.pow_succ,Nat.mul_add,Nat.mul_comm (128 ^ i) (b.toNat % 128),Nat.mul_assoc,Nat.add_assoc]
   ·show i+1+_=i+(_+1)
    omega
  ·simp only [if_neg he]

def vtake (l:List UInt8) (p most:Int):List UInt8 × Nat × Nat :=
 if (vget l p).2.2 ≠ 0 then ([],0,(vget l p).2.2)
 else if most < 0∨most < ((vget l p).1:Int) then ([],0,3)
 else if l.length - (vget l p).2.1 < (vget l p).1 then ([],0,2)
 else ((l.drop (vget l p).2.1).take (vget l p).1,(vget l p).2.1+(vget l p).1,0)

theorem vget_facts {l:List UInt8} {p:Int} {n f er:Nat} (h:vget l p=(n,f,er)) :
  n < 18446744073709551616∧f≤l.length∧(er=0→0≤p∧p.toNat < f):=by
 unfold vget at h
 by_cases h1:p < 0∨(l.length:Int) < p
 ·rw [if_pos h1] at h
  simp only [Prod.mk.injEq] at h
  omega
 ·rw [if_neg h1] at h
  have hb:=vgetF_bound 0 (by omega) (l.drop p.toNat)
  by_cases h2:(vgetF 0 (l.drop p.toNat)).2.2=0
  ·rw [if_pos h2] at h
   have hu:=vgetF_used 0 (l.drop p.toNat) h2
   simp only [Prod.mk.injEq] at h
   simp only [List.length_drop] at hu
   simp only [Nat.pow_zero,Nat.mul_one] at hb
   omega
  ·rw [if_neg h2] at h
   simp only [Prod.mk.injEq] at h
   omega

def vflat (l:List Nat):List UInt8:=(l.map vput).flatten

theorem vtake_text (a t r:List UInt8) (most:Int) (ht:t.length < 18446744073709551616) (hm:(t.length:Int)≤most) :
  vtake (a ++ (vput t.length ++ t ++ r)) (a.length:Int) most=(t,a.length+(vput t.length).length+t.length,0):=by
 unfold vtake
 rw [List.append_assoc,vget_vput _ ht]
 simp only [ne_eq,not_true_eq_false,if_false]
 rw [if_neg (by omega),if_neg (by simp; omega)]
 have e:List.drop (a.length+(vput t.length).length) (a ++ (vput t.length ++ (t ++ r)))=t ++ r:=by
  rw [← List.append_assoc a]
  rw [List.drop_append_of_le_length (by simp)]
  rw [List.drop_of_length_le (by simp)]
  simp
 rw [e]
 simp

def tflat (l:List (List UInt8)):List UInt8:=(l.map fun t => vput t.length ++ t).flatten

end Go.Proofs.YtekkofldhhdpgaaGreat

end

section

namespace Go.Proofs.YtekkofldhhdpgaaGreat
open Go.Lib Go.Sort

/-! ### Names -/

def lcOk (b:UInt8):Bool:=decide (97≤b.toNat) && decide (b.toNat≤122)
def dgOk (b:UInt8):Bool:=(decide (48≤b.toNat) && decide (b.toNat≤57)) || decide (b.toNat=45)
def inOk (b:UInt8):Bool:=lcOk b || dgOk b

def idIs (l:List UInt8):Bool:=decide (1≤l.length) && (decide (l.length≤16) && (lcOk (l.getD 0 0) && l.all inOk))

def low1 (b:UInt8):UInt8:=if 65≤b.toNat∧b.toNat≤90 then u8of (b.toNat+32) else b
def idLow (l:List UInt8):List UInt8:=l.map low1

def idFold (l:List UInt8):List UInt8 × Bool:=if idIs (idLow l)=true then (idLow l,true) else ([],false)
def idPut (l:List UInt8):List UInt8 × Bool:=if idIs l=true then (vput l.length ++ l,true) else ([],false)
def idTake (l:List UInt8) (p:Int):List UInt8 × Nat × Nat :=
 if (vtake l p 16).2.2 ≠ 0 then ([],0,(vtake l p 16).2.2) else if idIs (vtake l p 16).1=true then vtake l p 16 else ([],0,3)

theorem inOk_lt {b:UInt8} (h:inOk b=true):b.toNat < 128:=by
 simp [inOk,lcOk,dgOk] at h
 omega

theorem idIs_parts {l:List UInt8} (h:idIs l=true):1≤l.length∧l.length≤16∧lcOk (l.getD 0 0)=true∧l.all inOk=true:=by
 unfold idIs at h
 simp only [Bool.and_eq_true,decide_eq_true_eq] at h
 exact⟨h.1,h.2.1,h.2.2.1,h.2.2.2⟩

theorem idIs_mk {l:List UInt8} (h1:1≤l.length) (h2:l.length≤16) (h3:lcOk (l.getD 0 0)=true) (h4:l.all inOk=true):idIs l=true:=by
 unfold idIs
 simp only [Bool.and_eq_true,decide_eq_true_eq]
 exact⟨h1,h2,h3,h4⟩

theorem idIs_long {l:List UInt8} (h:16 < l.length):idIs l=false:=by
 rw [Bool.eq_false_iff]
 intro h'
 have:=(idIs_parts h').2.1
 omega

theorem idIs_high {l:List UInt8} {b:UInt8} (hb:b ∈ l) (h:128≤b.toNat):idIs l=false:=by
 rw [Bool.eq_false_iff]
 intro h'
 have:=inOk_lt (List.all_eq_true.1 (idIs_parts h').2.2.2 b hb)
 omega

/-! ### The order of names -/

def idCmp (a b:List UInt8):Int:=if a.length < b.length then -1 else if b.length < a.length then 1 else compareBytes a b

def idLess (a b:List UInt8):Bool:=decide (idCmp a b < 0)

theorem cb_swap:∀ a b:List UInt8,compareBytes b a=- compareBytes a b
 | [],[] => rfl
 | [],_ :: _ => rfl
 | _ :: _,[] => rfl
 | a :: xs,b :: ys => by
  unfold compareBytes
  by_cases h1:a < b
  ·have h2:¬ b < a:=fun h => by rw [UInt8.lt_iff_toNat_lt] at *; omega
   rw [if_pos h1,if_neg h2,if_pos h1]; rfl
  ·rw [if_neg h1]
   by_cases h2:b < a
   ·rw [if_pos h2,if_neg h1,if_pos h2]
   ·rw [if_neg h2,if_neg h2,if_neg h1]
    exact cb_swap xs ys

theorem cb_zero:∀ {a b:List UInt8},compareBytes a b=0→a=b
 | [],[],_ => rfl
 | [],_ :: _,h => by simp [compareBytes] at h
 | _ :: _,[],h => by simp [compareBytes] at h
 | a :: xs,b :: ys,h => by
  unfold compareBytes at h
  by_cases h1:a < b
  ·rw [if_pos h1] at h; simp at h
  ·rw [if_neg h1] at h
   by_cases h2:b < a
   ·rw [if_pos h2] at h; simp at h
   ·rw [if_neg h2] at h
    have e:a=b:=by
     rw [UInt8.lt_iff_toNat_lt] at h1 h2
     exact UInt8.toNat_inj.1 (by omega)
    rw [e,cb_zero h]

theorem cb_self:∀ a:List UInt8,compareBytes a a=0
 | [] => rfl
 | a :: xs => by
  unfold compareBytes
  have h:¬ a < a:=fun h => by rw [UInt8.lt_iff_toNat_lt] at h; omega
  rw [if_neg h,if_neg h]
  exact cb_self xs

theorem cb_trans:∀ {a b c:List UInt8},compareBytes a b≤0→compareBytes b c≤0→compareBytes a c≤0∧(compareBytes a b < 0∨compareBytes b c < 0→compareBytes a c < 0)
 | [],[],c,_,h2 => ⟨h2,fun h => by
   rcases h with h | h
   ·simp [compareBytes] at h
   ·exact h⟩
 | [],_ :: _,[],_,h2 => by simp [compareBytes] at h2
 | [],_ :: _,_ :: _,_,_ => by simp [compareBytes]
 | _ :: _,[],_,h1,_ => by simp [compareBytes] at h1
 | _ :: _,_ :: _,[],_,h2 => by simp [compareBytes] at h2
 | a :: xs,b :: ys,c :: zs,h1,h2 => by
  unfold compareBytes at h1 h2 ⊢
  simp only [UInt8.lt_iff_toNat_lt] at h1 h2 ⊢
  by_cases p1:a.toNat < b.toNat
  ·by_cases p2:b.toNat < c.toNat
   ·rw [if_pos (show a.toNat < c.toNat by omega)]; simp
   ·rw [if_neg p2] at h2
    by_cases p3:c.toNat < b.toNat
    ·rw [if_pos p3] at h2; simp at h2
    ·rw [if_pos (show a.toNat < c.toNat by omega)]; simp
  ·rw [if_neg p1] at h1 ⊢
   by_cases p2:b.toNat < a.toNat
   ·rw [if_pos p2] at h1; simp at h1
   ·rw [if_neg p2] at h1 ⊢
    by_cases p3:b.toNat < c.toNat
    ·rw [if_pos (show a.toNat < c.toNat by omega)]; simp
    ·rw [if_neg p3] at h2 ⊢
     by_cases p4:c.toNat < b.toNat
     ·rw [if_pos p4] at h2; simp at h2
     ·rw [if_neg p4] at h2 ⊢
      rw [if_neg (show ¬ a.toNat < c.toNat by omega),if_neg (show ¬ c.toNat < a.toNat by omega)]
      exact cb_trans h1 h2

theorem idCmp_swap (a b:List UInt8):idCmp b a=- idCmp a b:=by
 unfold idCmp
 by_cases h1:a.length < b.length
 ·rw [if_neg (by omega),if_pos h1,if_pos h1]; rfl
 ·by_cases h2:b.length < a.length
  ·rw [if_pos h2,if_neg h1,if_pos h2]
  ·rw [if_neg h2,if_neg h1,if_neg h1,if_neg h2]
   exact cb_swap a b

theorem idCmp_zero {a b:List UInt8} (h:idCmp a b=0):a=b:=by
 unfold idCmp at h
 by_cases h1:a.length < b.length
 ·rw [if_pos h1] at h; simp at h
 ·rw [if_neg h1] at h
  by_cases h2:b.length < a.length
  ·rw [if_pos h2] at h; simp at h
  ·rw [if_neg h2] at h
   exact cb_zero h

theorem idCmp_self (a:List UInt8):idCmp a a=0:=by
 unfold idCmp
 rw [if_neg (by omega),if_neg (by omega)]
 exact cb_self a

theorem idCmp_trans {a b c:List UInt8} (h1:idCmp a b≤0) (h2:idCmp b c≤0):idCmp a c≤0∧(idCmp a b < 0∨idCmp b c < 0→idCmp a c < 0):=by
 unfold idCmp at h1 h2 ⊢
 by_cases p1:a.length < b.length
 ·by_cases p3:c.length < b.length
  ·rw [if_neg (by omega),if_pos p3] at h2; simp at h2
  ·rw [if_pos (show a.length < c.length by omega)]; simp
 ·rw [if_neg p1] at h1 ⊢
  by_cases p2:b.length < a.length
  ·rw [if_pos p2] at h1; simp at h1
  ·rw [if_neg p2] at h1 ⊢
   by_cases p3:b.length < c.length
   ·rw [if_pos (show a.length < c.length by omega)]; simp
   ·rw [if_neg p3] at h2 ⊢
    by_cases p4:c.length < b.length
    ·rw [if_pos p4] at h2; simp at h2
    ·rw [if_neg p4] at h2 ⊢
     rw [if_neg (show ¬ a.length < c.length by omega),if_neg (show ¬ c.length < a.length by omega)]
     exact cb_trans h1 h2

theorem idLess_trans {a b c:List UInt8} (h1:idLess a b=true) (h2:idLess b c=true):idLess a c=true:=by
 unfold idLess at *
 simp only [decide_eq_true_eq] at *
 exact (idCmp_trans (by omega) (by omega)).2 (.inl h1)

theorem idLess_irrefl (a:List UInt8):idLess a a=false:=by
 unfold idLess
 rw [idCmp_self]
 rfl

theorem idLess_tri (a b:List UInt8):(idLess a b=true∧idLess b a=false∧¬ a=b)∨(idLess a b=false∧idLess b a=true∧¬ a=b)∨(idLess a b=false∧idLess b a=false∧a=b):=by
 have hs:=idCmp_swap a b
 by_cases h0:idCmp a b=0
 ·have e:=idCmp_zero h0
  subst e
  exact .inr (.inr ⟨idLess_irrefl _,idLess_irrefl _,rfl⟩)
 ·have hne:¬ a=b:=fun e => h0 (by rw [e]; exact idCmp_self b)
  unfold idLess
  by_cases h:idCmp a b < 0
  ·exact .inl ⟨by simpa using h,by simp; omega,hne⟩
  ·exact .inr (.inl ⟨by simpa using h,by simp; omega,hne⟩)

theorem idSWO:SWO (ltOf idCmp) where
 irrefl x:=idLess_irrefl x
 trans x y z h1 h2:=idLess_trans h1 h2
 ntrans x y z h1 h2:=by
  unfold ltOf at *
  have s1:=idCmp_swap x y
  have s2:=idCmp_swap y z
  have s3:=idCmp_swap x z
  simp only [decide_eq_false_iff_not] at *
  have:=(idCmp_trans (a:=z) (b:=y) (c:=x) (by omega) (by omega)).1
  omega

theorem idTot (x y:List UInt8) (h1:ltOf idCmp x y=false) (h2:ltOf idCmp y x=false):x=y:=by
 have s:=idCmp_swap x y
 unfold ltOf at h1 h2
 simp only [decide_eq_false_iff_not] at h1 h2
 exact idCmp_zero (by omega)

theorem bytesLess_cb:∀ a b:List UInt8,Op.bytesLess a b=decide (compareBytes a b < 0)
 | [],[] => rfl
 | [],_ :: _ => rfl
 | _ :: _,[] => rfl
 | a :: xs,b :: ys => by
  unfold Op.bytesLess compareBytes
  by_cases h1:a < b
  ·simp [h1]
  ·by_cases h2:b < a
   ·have:¬ a=b:=fun e => h1 (by rw [e] at h2 ⊢; exact h2)
    simp [h1,h2,this]
   ·have e:a=b:=by
     rw [UInt8.lt_iff_toNat_lt] at h1 h2
     exact UInt8.toNat_inj.1 (by omega)
    rw [if_neg h1,if_neg h2]
    subst e
    simp [bytesLess_cb xs ys]

theorem idLess_doc (a b:List UInt8):idLess a b=(decide (a.length < b.length) || (decide (a.length=b.length) && Op.bytesLess a b)):=by
 unfold idLess idCmp
 rw [bytesLess_cb]
 by_cases h1:a.length < b.length
 ·simp [h1]
 ·by_cases h2:b.length < a.length
  ·have:¬ a.length=b.length:=by omega
   rw [if_neg h1,if_pos h2]
   simp [h1,this]
  ·have:a.length=b.length:=by omega
   rw [if_neg h1,if_neg h2]
   simp [this]

/-! ### Lists merged -/

def Rising (l:List (List UInt8)):Prop:=l.Pairwise fun x y => idLess x y=true

theorem rising_unique:∀ {a b:List (List UInt8)},Rising a→Rising b→(∀ x,x ∈ a ↔ x ∈ b)→a=b
 | [],[],_,_,_ => rfl
 | [],y :: b,_,_,h => by have:=(h y).2 (by simp); simp at this
 | x :: a,[],_,_,h => by have:=(h x).1 (by simp); simp at this
 | x :: a,y :: b,ha,hb,h => by
  obtain⟨ha1,ha2⟩:=List.pairwise_cons.1 ha
  obtain⟨hb1,hb2⟩:=List.pairwise_cons.1 hb
  have e:x=y:=by
   have h1:=(h x).1 (by simp)
   have h2:=(h y).2 (by simp)
   rcases List.mem_cons.1 h1 with e | h1
   ·exact e
   ·rcases List.mem_cons.1 h2 with e | h2
    ·exact e.symm
    ·have p:=hb1 x h1
     have q:=ha1 y h2
     have:=idLess_trans p q
     rw [idLess_irrefl] at this
     cases this
  subst e
  have hx:∀ {l:List (List UInt8)},(∀ z ∈ l,idLess x z=true)→x ∉ l:=fun hl hm => by
   have:=hl x hm
   rw [idLess_irrefl] at this
   cases this
  have:a=b:=rising_unique ha2 hb2 (fun z => by
   have hz:=h z
   simp only [List.mem_cons] at hz
   constructor
   ·intro hm
    rcases hz.1 (.inr hm) with e | h'
    ·subst e; exact absurd hm (hx ha1)
    ·exact h'
   ·intro hm
    rcases hz.2 (.inr hm) with e | h'
    ·subst e; exact absurd hm (hx hb1)
    ·exact h')
  rw [this]

def ins (x:List UInt8):List (List UInt8)→List (List UInt8)
 | [] => [x]
 | y :: l => if idLess y x=true then y :: ins x l else if y=x then y :: l else x :: y :: l

def mrg (a:List (List UInt8)):List (List UInt8):=a.foldl (fun out x => ins x out) []

theorem ins_mem (x z:List UInt8):∀ l,z ∈ ins x l ↔ z=x∨z ∈ l
 | [] => by simp [ins]
 | y :: l => by
  unfold ins
  by_cases h:idLess y x=true
  ·rw [if_pos h]
   simp only [List.mem_cons,ins_mem x z l]
   constructor
   ·rintro (h | h | h) <;> simp [h]
   ·rintro (h | h | h) <;> simp [h]
  ·rw [if_neg h]
   by_cases e:y=x
   ·rw [if_pos e]
    subst e
    simp only [List.mem_cons]
    constructor
    ·intro h; exact .inr h
    ·rintro (h | h)
     ·exact .inl h
     ·exact h
   ·rw [if_neg e]
    simp only [List.mem_cons]

theorem ins_rising (x:List UInt8):∀ l,Rising l→Rising (ins x l)
 | [],_ => by simp [ins,Rising]
 | y :: l,h => by
  obtain⟨h1,h2⟩:=List.pairwise_cons.1 h
  unfold ins
  by_cases hl:idLess y x=true
  ·rw [if_pos hl]
   refine List.pairwise_cons.2 ⟨fun z hz => ?_,ins_rising x l h2⟩
   rcases (ins_mem x z l).1 hz with e | hz
   ·subst e; exact hl
   ·exact h1 z hz
  ·rw [if_neg hl]
   by_cases e:y=x
   ·rw [if_pos e]; exact h
   ·rw [if_neg e]
    have hxy:idLess x y=true:=by
     rcases idLess_tri y x with ⟨p,_,_⟩ | ⟨_,p,_⟩ | ⟨_,_,p⟩
     ·exact absurd p hl
     ·exact p
     ·exact absurd p e
    refine List.pairwise_cons.2 ⟨fun z hz => ?_,h⟩
    rcases List.mem_cons.1 hz with e | hz
    ·subst e; exact hxy
    ·exact idLess_trans hxy (h1 z hz)

theorem foldl_ins (l:List (List UInt8)):∀ acc,Rising acc→Rising (l.foldl (fun out x => ins x out) acc)∧∀ z,z ∈ l.foldl (fun out x => ins x out) acc ↔ z ∈ acc∨z ∈ l:=by
 induction l with
 | nil => intro acc h; exact⟨h,fun z => by simp⟩
 | cons x l ih =>
  intro acc h
  have:=ih (ins x acc) (ins_rising x acc h)
  refine ⟨this.1,fun z => ?_⟩
  rw [List.foldl_cons,this.2 z,ins_mem]
  simp only [List.mem_cons]
  constructor
  ·rintro ((h | h) | h) <;> simp [h]
  ·rintro (h | h | h) <;> simp [h]

theorem mrg_rising (l:List (List UInt8)):Rising (mrg l):=(foldl_ins l [] (by simp [Rising])).1
theorem mrg_mem (l:List (List UInt8)) (z:List UInt8):z ∈ mrg l ↔ z ∈ l:=by
 have:=(foldl_ins l [] (by simp [Rising])).2 z
 unfold mrg
 simpa using this

theorem mrg_unique {a l:List (List UInt8)} (h:Rising a) (hm:∀ x,x ∈ a ↔ x ∈ l):a=mrg l:=rising_unique h (mrg_rising l) (fun x => (hm x).trans (mrg_mem l x).symm)

theorem compact_rising (d:Array (List UInt8)) (hs:d.toList.Pairwise fun x y => idLess y x=false):Rising (compactUpTo d d.size)∧∀ x,x ∈ compactUpTo d d.size ↔ x ∈ d.toList:=by
 have key:∀ m,m≤d.size→Rising (compactUpTo d m)∧(∀ x,x ∈ compactUpTo d m ↔ ∃ j,j < m∧d[j]! = x):=by
  intro m
  induction m with
  | zero => intro _; exact⟨by simp [compactUpTo,Rising],fun x => by simp [compactUpTo]⟩
  | succ m ih =>
   intro hm
   obtain⟨h1,h2⟩:=ih (by omega)
   have e:compactUpTo d (m+1)=compactUpTo d m ++ if keeps d m=true then [d[m]!] else []:=by
    unfold compactUpTo
    rw [List.range_succ,List.filter_append,List.map_append]
    by_cases hk:keeps d m=true <;> simp [hk]
   have hle:∀ i j,i≤j→j < d.size→idLess d[j]! d[i]! = false:=by
    intro i j hij hj
    by_cases e:i=j
    ·subst e; exact idLess_irrefl _
    ·have:=List.pairwise_iff_getElem.1 hs i j (by simpa using (by omega:i < d.size)) (by simpa using hj) (by omega)
     rw [getElem!_pos d i (by omega),getElem!_pos d j hj]
     simpa using this
   by_cases hk:keeps d m=true
   ·rw [e,if_pos hk]
    have hlt:∀ i,i < m→idLess d[i]! d[m]! = true:=by
     intro i hi
     have hm0:¬ m=0:=by omega
     have hne:d[m]! ≠ d[m - 1]!:=by
      unfold keeps at hk
      simp only [decide_eq_true_eq] at hk
      rcases hk with h | h
      ·exact absurd h hm0
      ·exact h
     have a:=hle i (m - 1) (by omega) (by omega)
     have b:=hle (m - 1) m (by omega) (by omega)
     have c:=hle i m (by omega) (by omega)
     rcases idLess_tri d[i]! d[m]! with ⟨p,_,_⟩ | ⟨_,p,_⟩ | ⟨_,_,p⟩
     ·exact p
     ·rw [c] at p; cases p
     ·exfalso
      rcases idLess_tri d[m - 1]! d[m]! with ⟨q,_,_⟩ | ⟨_,q,_⟩ | ⟨_,_,q⟩
      ·rw [← p,a] at q; cases q
      ·rw [b] at q; cases q
      ·exact hne q.symm
    refine ⟨List.pairwise_append.2 ⟨h1,by simp,fun x hx y hy => ?_⟩,fun x => ?_⟩
    ·obtain⟨j,hj,rfl⟩:=(h2 x).1 hx
     simp only [List.mem_singleton] at hy
     subst hy
     exact hlt j hj
    ·rw [List.mem_append,h2 x]
     simp only [List.mem_singleton]
     constructor
     ·rintro (⟨j,hj,h⟩ | h)
      ·exact⟨j,by omega,h⟩
      ·exact⟨m,by omega,h.symm⟩
     ·rintro ⟨j,hj,h⟩
      by_cases hjm:j=m
      ·subst hjm; exact .inr h.symm
      ·exact .inl ⟨j,by omega,h⟩
   ·rw [e,if_neg hk,List.append_nil]
    refine ⟨h1,fun x => ?_⟩
    rw [h2 x]
    have hm0:¬ m=0∧d[m]! = d[m - 1]!:=by
     unfold keeps at hk
     simp only [decide_eq_true_eq,not_or,ne_eq,Decidable.not_not] at hk
     exact hk
    constructor
    ·rintro ⟨j,hj,h⟩
     exact⟨j,by omega,h⟩
    ·rintro ⟨j,hj,h⟩
     by_cases hjm:j=m
     ·subst hjm; exact⟨j - 1,by omega,by rw [← hm0.2]; exact h⟩
     ·exact⟨j,by omega,h⟩
 obtain⟨h1,h2⟩:=key d.size (Nat.le_refl _)
 refine ⟨h1,fun x => ?_⟩
 rw [h2 x]
 constructor
 ·rintro ⟨j,hj,rfl⟩
  rw [getElem!_pos d j hj]
  simp
 ·intro hx
  obtain⟨j,hj,h⟩:=List.mem_iff_getElem.1 hx
  have hj':j < d.size:=by simpa using hj
  exact⟨j,hj',by rw [getElem!_pos d j hj']; simpa using h⟩

theorem sort_compact (l:List (List UInt8)):compactUpTo (l.mergeSort fun x y => !(ltOf idCmp) y x).toArray (l.mergeSort fun x y => !(ltOf idCmp) y x).toArray.size=mrg l:=by
 have hp:(l.mergeSort fun x y => !(ltOf idCmp) y x).Pairwise fun x y => (!(ltOf idCmp) y x)=true:=by
  apply List.pairwise_mergeSort
  ·intro a b c h1 h2
   simp only [Bool.not_eq_true'] at *
   exact idSWO.ntrans _ _ _ h2 h1
  ·intro a b
   simp only [Bool.or_eq_true,Bool.not_eq_true']
   rcases idLess_tri a b with ⟨_,p,_⟩ | ⟨p,_,_⟩ | ⟨p,_,_⟩
   ·exact .inl p
   ·exact .inr p
   ·exact .inr p
 have h:=compact_rising (l.mergeSort fun x y => !(ltOf idCmp) y x).toArray (by
  refine List.Pairwise.imp (fun {x y} h => ?_) hp
  show ltOf idCmp y x=false
  simpa using h)
 exact mrg_unique h.1 (fun x => by rw [h.2 x]; simp)

end Go.Proofs.YtekkofldhhdpgaaGreat

end

section

namespace Go.Proofs.YtekkofldhhdpgaaGreat

structure Val where
 sh:Int
 pr:Int
 si:Int
 st:List UInt8

def Val.zero:Val:=⟨0,0,0,[]⟩

def chOk (b:UInt8):Bool:=decide (32≤b.toNat) && decide (b.toNat≤126)

def stOk (l:List UInt8):Bool:=decide (l.length≤32) && l.all chOk

def numsOk (a b c:Int):Bool:=decide (1≤a∧a≤4∧-128≤b∧b≤127∧0≤c∧c≤1099511627776)

def vaMay (v:Val):Bool:=numsOk v.sh v.pr v.si && stOk v.st

def vaBytes (v:Val):List UInt8:=[u8of v.sh.toNat,u8of (v.pr+128).toNat] ++ (vput v.si.toNat ++ (vput v.st.length ++ v.st))

def vaTwo (l:List UInt8) (p:Int) (n:Nat) (t:List UInt8):Val:=⟨(l.getD p.toNat 0).toNat,(l.getD (p.toNat+1) 0).toNat - 128,n,t⟩

def vaTake (l:List UInt8) (p:Int):Val × Nat × Nat :=
 if p < 0∨(l.length:Int) < p then (Val.zero,0,1)
 else if (l.length:Int) - p < 2 then (Val.zero,0,2)
 else if (vget l (p+2)).2.2 ≠ 0 then (Val.zero,0,(vget l (p+2)).2.2)
 else if (vtake l (vget l (p+2)).2.1 32).2.2 ≠ 0 then (Val.zero,0,(vtake l (vget l (p+2)).2.1 32).2.2)
 else if vaMay (vaTwo l p (vget l (p+2)).1 (vtake l (vget l (p+2)).2.1 32).1)=false then (Val.zero,0,3)
 else (vaTwo l p (vget l (p+2)).1 (vtake l (vget l (p+2)).2.1 32).1,(vtake l (vget l (p+2)).2.1 32).2.1,0)

theorem vaMay_parts {v:Val} (h:vaMay v=true):1≤v.sh∧v.sh≤4∧-128≤v.pr∧v.pr≤127∧0≤v.si∧v.si≤1099511627776∧v.st.length≤32:=by
 unfold vaMay numsOk stOk at h
 simp at h
 omega

theorem vget_bytes {l:List UInt8} {p:Nat} {n f:Nat} (h:vget l p=(n,f,0)):p≤f∧f≤l.length∧vput n=(l.drop p).take (f - p):=by
 have hf:=vget_facts h
 have hp:=(hf.2.2 rfl).2
 have hle:p≤l.length:=by simp at hp; omega
 unfold vget at h
 rw [if_neg (by omega)] at h
 simp only [Int.toNat_natCast] at h hp
 by_cases he:(vgetF 0 (l.drop p)).2.2=0
 ·rw [if_pos he] at h
  simp only [Prod.mk.injEq] at h
  have:=vputF_vgetF (l.drop p) 9 0 rfl he
  refine ⟨by omega,hf.2.1,?_⟩
  rw [← h.1]
  unfold vput
  rw [this.1]
  congr 1
  omega
 ·rw [if_neg he] at h
  simp only [Prod.mk.injEq] at h
  exact absurd h.2.2 he

theorem vtake_bytes {l:List UInt8} {p:Nat} {m:Int} {t:List UInt8} {f:Nat} (h:vtake l p m=(t,f,0)):p≤f∧f≤l.length∧vput t.length ++ t=(l.drop p).take (f - p)∧(t.length:Int)≤m:=by
 obtain⟨n,g,e,hg⟩ : ∃ n g e,vget l p=(n,g,e):=⟨_,_,_,rfl⟩
 unfold vtake at h
 rw [hg] at h
 simp only at h
 by_cases he:e=0
 ·subst he
  rw [if_neg (by simp)] at h
  have hb:=vget_bytes hg
  by_cases h1:m < 0∨m < (n:Int)
  ·rw [if_pos h1] at h; simp at h
  ·rw [if_neg h1] at h
   by_cases h2:l.length - g < n
   ·rw [if_pos h2] at h; simp at h
   ·rw [if_neg h2] at h
    simp only [Prod.mk.injEq] at h
    obtain⟨rfl,rfl,_⟩:=h
    have hl:((l.drop g).take n).length=n:=by simp; omega
    refine ⟨by omega,by omega,?_,by rw [hl]; omega⟩
    rw [hl,hb.2.2]
    have e1:g+n - p=(g - p)+n:=by omega
    have e2:l.drop g=(l.drop p).drop (g - p):=by rw [List.drop_drop]; congr 1; omega
    rw [e1,e2,List.take_add]
 ·rw [if_pos he] at h
  simp only [Prod.mk.injEq] at h
  exact absurd h.2.2 he

theorem vaTake_put {v:Val} (hv:vaMay v=true) (a r:List UInt8):vaTake (a ++ (vaBytes v ++ r)) (a.length:Int)=(v,a.length+(vaBytes v).length,0):=by
 obtain⟨h1,h2,h3,h4,h5,h6,h7⟩:=vaMay_parts hv
 obtain⟨sh,pr,si,st⟩:=v
 simp only at h1 h2 h3 h4 h5 h6 h7
 obtain⟨n,rfl⟩:=Int.eq_ofNat_of_zero_le h5
 have e1:a ++ (vaBytes ⟨sh,pr,n,st⟩ ++ r)=(a ++ [u8of sh.toNat,u8of (pr+128).toNat]) ++ (vput n ++ (vput st.length ++ st ++ r)):=by
  simp [vaBytes]
 have e2:((a.length:Int)+2)=(((a ++ [u8of sh.toNat,u8of (pr+128).toNat]).length:Nat):Int):=by simp
 have g:=vget_vput n (by omega) (a ++ [u8of sh.toNat,u8of (pr+128).toNat]) (vput st.length ++ st ++ r)
 have e3:(a ++ [u8of sh.toNat,u8of (pr+128).toNat]).length+(vput n).length=((a ++ [u8of sh.toNat,u8of (pr+128).toNat]) ++ vput n).length:=(List.length_append ..).symm
 have t:=vtake_text ((a ++ [u8of sh.toNat,u8of (pr+128).toNat]) ++ vput n) st r 32 (by omega) (by omega)
 rw [List.append_assoc _ (vput n)] at t
 rw [e3] at g
 have b1:((a ++ [u8of sh.toNat,u8of (pr+128).toNat]) ++ (vput n ++ (vput st.length ++ st ++ r))).getD a.length 0=u8of sh.toNat:=by simp [List.getD]
 have b2:((a ++ [u8of sh.toNat,u8of (pr+128).toNat]) ++ (vput n ++ (vput st.length ++ st ++ r))).getD (a.length+1) 0=u8of (pr+128).toNat:=by
  have:a.length+1 - a.length=1:=by omega
  simp [List.getD,this]
 have htwo:vaTwo ((a ++ [u8of sh.toNat,u8of (pr+128).toNat]) ++ (vput n ++ (vput st.length ++ st ++ r))) a.length n st=⟨sh,pr,n,st⟩:=by
  unfold vaTwo
  simp only [Int.toNat_natCast]
  rw [b1,b2,u8of_toNat (by omega),u8of_toNat (by omega)]
  rw [show ((sh.toNat:Nat):Int)=sh by omega,show (((pr+128).toNat:Nat):Int) - 128=pr by omega]
 unfold vaTake
 rw [e1,if_neg (by simp; omega),if_neg (by simp; omega),e2,g]
 simp only [ne_eq,not_true_eq_false,if_false]
 rw [t]
 simp only [not_true_eq_false,if_false]
 rw [htwo,hv]
 simp only [Bool.true_eq_false,if_false]
 simp [vaBytes]
 omega

theorem vaPut_take {l:List UInt8} {p:Nat} {v:Val} {f:Nat} (h:vaTake l p=(v,f,0)):vaMay v=true∧p≤f∧f≤l.length∧vaBytes v=(l.drop p).take (f - p):=by
 unfold vaTake at h
 by_cases h1:(p:Int) < 0∨(l.length:Int) < p
 ·rw [if_pos h1] at h; simp at h
 rw [if_neg h1] at h
 by_cases h2:(l.length:Int) - p < 2
 ·rw [if_pos h2] at h; simp at h
 rw [if_neg h2] at h
 obtain⟨n,g,e,hg⟩ : ∃ n g e,vget l ((p:Int)+2)=(n,g,e):=⟨_,_,_,rfl⟩
 rw [hg] at h
 simp only at h
 by_cases he:e=0
 ·subst he
  simp only [ne_eq,not_true_eq_false,if_false] at h
  obtain⟨t,k,e',ht⟩ : ∃ t k e',vtake l g 32=(t,k,e'):=⟨_,_,_,rfl⟩
  rw [ht] at h
  simp only at h
  by_cases he':e'=0
  ·subst he'
   simp only [not_true_eq_false,if_false] at h
   by_cases hm:vaMay (vaTwo l p n t)=false
   ·rw [if_pos hm] at h; simp at h
   ·rw [if_neg hm] at h
    simp only [Prod.mk.injEq] at h
    obtain⟨rfl,rfl,_⟩:=h
    have hg':vget l ((p+2:Nat):Int)=(n,g,0):=by rw [← hg]; rfl
    obtain⟨a1,a2,a3⟩:=vget_bytes hg'
    obtain⟨b1,b2,b3,b4⟩:=vtake_bytes ht
    refine ⟨by simpa using hm,by omega,b2,?_⟩
    unfold vaBytes vaTwo
    simp only [Int.toNat_natCast]
    rw [show ((((l.getD (p+1) 0).toNat:Nat):Int) - 128+128).toNat=(l.getD (p+1) 0).toNat by omega,u8of_of_toNat,u8of_of_toNat,a3,b3]
    have e1:k - p=2+((g - (p+2))+(k - g)):=by omega
    have e2:(l.drop p).take 2=[l.getD p 0,l.getD (p+1) 0]:=by
     rw [List.drop_eq_getElem_cons (show p < l.length by omega),List.drop_eq_getElem_cons (show p+1 < l.length by omega)]
     rw [show l.getD p 0=l[p]'(by omega) by simp [List.getD,List.getElem?_eq_getElem (show p < l.length by omega)],show l.getD (p+1) 0=l[p+1]'(by omega) by simp [List.getD,List.getElem?_eq_getElem (show p+1 < l.length by omega)]]
     rfl
    rw [e1,List.take_add,e2,List.take_add,List.drop_drop,List.drop_drop]
    congr 4
    omega
  ·rw [if_pos he'] at h
   simp only [Prod.mk.injEq] at h
   exact absurd h.2.2 he'
 ·rw [if_pos he] at h
  simp only [Prod.mk.injEq] at h
  exact absurd h.2.2 he

theorem vput_small_len {n:Nat} (h:n < 128):(vput n).length=1:=by rw [vput_lt h]; rfl

theorem vaBytes_len {v:Val} (hv:vaMay v=true):(vaBytes v).length=3+(vput v.si.toNat).length+v.st.length:=by
 have h:=(vaMay_parts hv).2.2.2.2.2.2
 have:=vput_small_len (show v.st.length < 128 by omega)
 unfold vaBytes
 simp only [List.length_append,List.length_cons,List.length_nil]
 omega

def shows:List (List UInt8):=[[111,102,102],[103,111,110,101],[97,119,97,121],[98,117,115,121],[111,110,108,105,110,101]]

def vaSay (n:Int):List UInt8 × Bool:=if n < 0∨4 < n then ([],false) else (shows.getD n.toNat [],true)

def vaHear (l:List UInt8):Nat × Bool :=
 if l=[111,102,102] then (0,true) else if l=[103,111,110,101] then (1,true) else if l=[97,119,97,121] then (2,true)
 else if l=[98,117,115,121] then (3,true) else if l=[111,110,108,105,110,101] then (4,true) else (0,false)

def vaEq (x y:Val):Bool:=(x.sh == y.sh && (x.pr == y.pr && (x.si == y.si && x.st == y.st)))

end Go.Proofs.YtekkofldhhdpgaaGreat

end

section

namespace Go.Proofs.YtekkofldhhdpgaaGreat

structure Row where
 c:List UInt8
 v:Val

def Row.zero:Row:=⟨[],Val.zero⟩

structure Chg where
 c:List UInt8
 on:Bool
 v:Val

def vSame (x y:Val):Bool:=(x.sh == y.sh && (x.pr == y.pr && (x.si == y.si && x.st == y.st)))

theorem vSame_iff {x y:Val}:vSame x y=true ↔ x=y:=by
 obtain⟨a,b,c,s⟩:=x
 obtain⟨a',b',c',s'⟩:=y
 simp [vSame]

theorem vSame_self (x:Val):vSame x x=true:=vSame_iff.2 rfl
def rSame (x y:Row):Bool:=(x.c == y.c) && vSame x.v y.v

theorem rSame_iff {x y:Row}:rSame x y=true ↔ x=y:=by
 obtain⟨a,b⟩:=x
 obtain⟨a',b'⟩:=y
 simp [rSame,vSame_iff]

theorem rSame_self (x:Row):rSame x x=true:=rSame_iff.2 rfl
def cSame (x y:Chg):Bool:=(x.c == y.c) && ((x.on == y.on) && vSame x.v y.v)

theorem row_get {t:List Row} {k:Nat} (h:k < t.length):t[k]=t.getD k Row.zero:=by simp [List.getD,List.getElem?_eq_getElem h]

def tSame (a b:List Row):Bool:=decide (a.length=b.length) && (List.range a.length).all fun i => rSame (a.getD i Row.zero) (b.getD i Row.zero)

theorem tSame_iff {a b:List Row}:tSame a b=true ↔ a=b:=by
 constructor
 ·intro h
  unfold tSame at h
  simp only [Bool.and_eq_true,decide_eq_true_eq] at h
  obtain⟨h1,h2⟩:=h
  refine List.ext_getElem h1 fun i p q => ?_
  have:=List.all_eq_true.1 h2 i (List.mem_range.2 p)
  rw [row_get p,row_get q]
  exact rSame_iff.1 this
 ·intro h
  subst h
  unfold tSame
  simp [rSame_self]

theorem tSame_len {a b:List Row} (h:¬ a.length=b.length):tSame a b=false:=by
 unfold tSame
 simp [h]

theorem tSame_off {a b:List Row} {k:Nat} (_hk:k < a.length) (h:rSame (a.getD k Row.zero) (b.getD k Row.zero)=false):tSame a b=false:=by
 rw [Bool.eq_false_iff]
 intro h'
 rw [tSame_iff] at h'
 subst h'
 rw [rSame_self] at h
 cases h

theorem tSame_on {a b:List Row} (hl:a.length=b.length) (h:(List.range a.length).all (fun i => rSame (a.getD i Row.zero) (b.getD i Row.zero))=true):tSame a b=true:=by
 unfold tSame
 rw [h]
 simp [hl]

theorem range_all_succ {k:Nat} {f:Nat→Bool} (h:(List.range k).all f=true) (hk:f k=true):(List.range (k+1)).all f=true:=by
 rw [List.range_succ,List.all_append,h]
 simp [hk]

theorem range_all_no {n k:Nat} {f:Nat→Bool} (hk:k < n) (h:f k=false):(List.range n).all f=false:=by
 rw [Bool.eq_false_iff]
 intro h'
 have:=List.all_eq_true.1 h' k (List.mem_range.2 hk)
 rw [h] at this
 cases this

/-! ### What may be -/

def rowOk (r:Row):Bool:=idIs r.c && vaMay r.v

def rowAt (t:List Row) (j:Nat):Bool:=rowOk (t.getD j Row.zero) && (decide (j=0) || idLess (t.getD (j - 1) Row.zero).c (t.getD j Row.zero).c)

def diMay (t:List Row):Bool:=decide (t.length≤32) && (List.range t.length).all (rowAt t)

def RRise (t:List Row):Prop:=t.Pairwise fun x y => idLess x.c y.c=true

theorem diMay_long {t:List Row} (h:32 < t.length):diMay t=false:=by
 unfold diMay
 simp
 omega

theorem diMay_iff {t:List Row}:diMay t=true ↔ t.length≤32∧(∀ r ∈ t,rowOk r=true)∧RRise t:=by
 unfold diMay
 simp only [Bool.and_eq_true,decide_eq_true_eq,List.all_eq_true,List.mem_range]
 constructor
 ·rintro ⟨h1,h2⟩
  refine ⟨h1,?_,?_⟩
  ·intro r hr
   obtain⟨k,hk,rfl⟩:=List.getElem_of_mem hr
   have:=h2 k hk
   unfold rowAt at this
   rw [← row_get hk] at this
   simp only [Bool.and_eq_true] at this
   exact this.1
  ·have key:∀ d i,i+d+1 < t.length→idLess (t.getD i Row.zero).c (t.getD (i+d+1) Row.zero).c=true:=by
    intro d
    induction d with
    | zero =>
     intro i hi
     have:=h2 (i+1) (by omega)
     unfold rowAt at this
     simp only [Bool.and_eq_true] at this
     simpa using this.2
    | succ d ih =>
     intro i hi
     have a:=ih i (by omega)
     have:=h2 (i+d+1+1) (by omega)
     unfold rowAt at this
     simp only [Bool.and_eq_true] at this
     have b:idLess (t.getD (i+d+1) Row.zero).c (t.getD (i+d+1+1) Row.zero).c=true:=by simpa using this.2
     exact idLess_trans a b
   refine List.pairwise_iff_getElem.2 fun i j hi hj hij => ?_
   rw [row_get hi,row_get hj]
   have:=key (j - i - 1) i (by omega)
   rwa [show i+(j - i - 1)+1=j by omega] at this
 ·rintro ⟨h1,h2,h3⟩
  refine ⟨h1,fun k hk => ?_⟩
  unfold rowAt
  rw [← row_get hk,h2 _ (List.getElem_mem hk)]
  simp only [Bool.true_and,Bool.or_eq_true,decide_eq_true_eq]
  by_cases h0:k=0
  ·exact .inl h0
  ·right
   have:=List.pairwise_iff_getElem.1 h3 (k - 1) k (by omega) hk (by omega)
   rwa [row_get (show k - 1 < t.length by omega)] at this

theorem rowOk_parts {r:Row} (h:rowOk r=true):idIs r.c=true∧vaMay r.v=true:=by
 unfold rowOk at h
 simpa using h

/-! ### Bytes -/

def rowBytes (r:Row):List UInt8:=(vput r.c.length ++ r.c) ++ vaBytes r.v
def rowsBytes (t:List Row):List UInt8:=(t.map rowBytes).flatten
def diBytes (t:List Row):List UInt8:=vput t.length ++ rowsBytes t
def diPut (t:List Row):List UInt8 × Bool:=if diMay t=true then (diBytes t,true) else ([],false)

theorem rowsBytes_cons (r:Row) (t:List Row):rowsBytes (r :: t)=rowBytes r ++ rowsBytes t:=rfl

theorem rowsBytes_succ {t:List Row} {k:Nat} (h:k < t.length):rowsBytes (t.take (k+1))=rowsBytes (t.take k) ++ rowBytes (t.getD k Row.zero):=by
 unfold rowsBytes
 rw [List.take_succ_eq_append_getElem h,row_get h]
 simp

theorem rowBytes_len {r:Row} (h:rowOk r=true):(rowBytes r).length≤62∧5≤(rowBytes r).length:=by
 obtain⟨h1,h2⟩:=rowOk_parts h
 have a:=(idIs_parts h1).2.1
 have a1:=(idIs_parts h1).1
 have b:=vaBytes_len h2
 have c:=(vaMay_parts h2)
 have d:=vput_small_len (show r.c.length < 128 by omega)
 have e:(vput r.v.si.toNat).length≤10:=vput_len_le _
 have e1:=vput_len_pos r.v.si.toNat
 unfold rowBytes
 simp only [List.length_append]
 omega

theorem rowsBytes_len:∀ {t:List Row},(∀ r ∈ t,rowOk r=true)→(rowsBytes t).length≤62 * t.length
 | [],_ => by simp [rowsBytes]
 | r :: t,h => by
  have a:=(rowBytes_len (h r (by simp))).1
  have b:=rowsBytes_len (t:=t) (fun x hx => h x (by simp [hx]))
  rw [rowsBytes_cons,List.length_append,List.length_cons]
  omega

theorem diBytes_len {t:List Row} (h:diMay t=true):(diBytes t).length≤1985:=by
 obtain⟨h1,h2,_⟩:=diMay_iff.1 h
 have a:=rowsBytes_len h2
 have b:=vput_small_len (show t.length < 128 by omega)
 unfold diBytes
 rw [List.length_append]
 omega

theorem diPut_len (t:List Row):(diPut t).1.length≤1985:=by
 unfold diPut
 by_cases h:diMay t=true
 ·rw [if_pos h]; exact diBytes_len h
 ·rw [if_neg h]; simp

def diTakeRow (l:List UInt8) (p:Nat):Row × Nat × Nat :=
 if (idTake l p).2.2 ≠ 0 then (Row.zero,0,(idTake l p).2.2)
 else if (vaTake l (idTake l p).2.1).2.2 ≠ 0 then (Row.zero,0,(vaTake l (idTake l p).2.1).2.2)
 else (⟨(idTake l p).1,(vaTake l (idTake l p).2.1).1⟩,(vaTake l (idTake l p).2.1).2.1,0)

def diRows:Nat→List UInt8→Nat→List Row × Nat × Nat
 | 0,_,p => ([],p,0)
 | n+1,l,p =>
  if (diTakeRow l p).2.2 ≠ 0 then ([],0,(diTakeRow l p).2.2)
  else if (diRows n l (diTakeRow l p).2.1).2.2 ≠ 0 then ([],0,(diRows n l (diTakeRow l p).2.1).2.2)
  else ((diTakeRow l p).1 :: (diRows n l (diTakeRow l p).2.1).1,(diRows n l (diTakeRow l p).2.1).2.1,0)

def diTake (l:List UInt8) (p:Int):List Row × Nat × Nat :=
 if (vget l p).2.2 ≠ 0 then ([],0,(vget l p).2.2)
 else if 32 < (vget l p).1 then ([],0,3)
 else if (diRows (vget l p).1 l (vget l p).2.1).2.2 ≠ 0 then ([],0,(diRows (vget l p).1 l (vget l p).2.1).2.2)
 else if diMay (diRows (vget l p).1 l (vget l p).2.1).1=false then ([],0,3)
 else ((diRows (vget l p).1 l (vget l p).2.1).1,(diRows (vget l p).1 l (vget l p).2.1).2.1,0)

def diComb (acc:List Row) (r:List Row × Nat × Nat):List Row × Nat × Nat:=if r.2.2 ≠ 0 then ([],0,r.2.2) else (acc ++ r.1,r.2.1,0)

theorem diRows_shape:∀ (n:Nat) (l:List UInt8) (p:Nat),(diRows n l p).2.2=0∨diRows n l p=([],0,(diRows n l p).2.2)
 | 0,l,p => .inl rfl
 | n+1,l,p => by
  unfold diRows
  by_cases h1:(diTakeRow l p).2.2 ≠ 0
  ·rw [if_pos h1]; exact .inr rfl
  ·rw [if_neg h1]
   by_cases h2:(diRows n l (diTakeRow l p).2.1).2.2 ≠ 0
   ·rw [if_pos h2]; exact .inr rfl
   ·rw [if_neg h2]; exact .inl rfl

theorem diComb_start (n:Nat) (l:List UInt8) (p:Nat):diComb [] (diRows n l p)=diRows n l p:=by
 unfold diComb
 rcases diRows_shape n l p with h | h
 ·rw [if_neg (by rw [h]; simp)]
  exact Prod.ext rfl (Prod.ext rfl h.symm)
 ·by_cases h0:(diRows n l p).2.2 ≠ 0
  ·rw [if_pos h0,← h]
  ·rw [if_neg h0]
   exact Prod.ext rfl (Prod.ext rfl (Decidable.not_not.1 h0).symm)

theorem diComb_end (acc:List Row) (l:List UInt8) (p:Nat):diComb acc (diRows 0 l p)=(acc,p,0):=by simp [diComb,diRows]

theorem diComb_step {n:Nat} {l:List UInt8} {p:Nat} (acc:List Row) {r:Row} {f:Nat} (h:diTakeRow l p=(r,f,0)) :
  diComb acc (diRows (n+1) l p)=diComb (acc ++ [r]) (diRows n l f):=by
 conv => lhs; unfold diRows
 rw [h]
 simp only [ne_eq,not_true_eq_false,if_false]
 unfold diComb
 by_cases h2:(diRows n l f).2.2 ≠ 0
 ·rw [if_pos h2,if_pos h2,if_pos h2]
 ·rw [if_neg h2,if_neg h2]
  simp

theorem diComb_err {n:Nat} {l:List UInt8} {p:Nat} (acc:List Row) {r:Row} {f e:Nat} (h:diTakeRow l p=(r,f,e)) (he:e ≠ 0) :
  diComb acc (diRows (n+1) l p)=([],0,e):=by
 unfold diRows
 rw [h]
 simp only [if_pos he]
 unfold diComb
 rw [if_pos he]

theorem idTake_at {t:List UInt8} (h:idIs t=true) (a z:List UInt8):idTake (a ++ ((vput t.length ++ t) ++ z)) (a.length:Int)=(t,a.length+(vput t.length ++ t).length,0):=by
 have hl:=(idIs_parts h).2.1
 have e:=vtake_text a t z 16 (by omega) (by omega)
 unfold idTake
 rw [e]
 simp [h]
 omega

theorem diTakeRow_put {r:Row} (h:rowOk r=true) (a z:List UInt8):diTakeRow (a ++ (rowBytes r ++ z)) a.length=(r,a.length+(rowBytes r).length,0):=by
 obtain⟨h1,h2⟩:=rowOk_parts h
 have e1:=idTake_at h1 a (vaBytes r.v ++ z)
 have e2:=vaTake_put h2 (a ++ (vput r.c.length ++ r.c)) z
 have e3:a ++ (rowBytes r ++ z)=a ++ ((vput r.c.length ++ r.c) ++ (vaBytes r.v ++ z)):=by simp [rowBytes]
 have e4:(a ++ (vput r.c.length ++ r.c)) ++ (vaBytes r.v ++ z)=a ++ ((vput r.c.length ++ r.c) ++ (vaBytes r.v ++ z)):=by simp
 rw [e4] at e2
 have e5:(((a ++ (vput r.c.length ++ r.c)).length:Nat):Int)=((a.length+(vput r.c.length ++ r.c).length:Nat):Int):=by simp
 rw [e5] at e2
 unfold diTakeRow
 rw [e3,e1]
 simp only [ne_eq,not_true_eq_false,if_false]
 rw [e2]
 simp only [not_true_eq_false,if_false]
 refine Prod.ext rfl (Prod.ext ?_ rfl)
 simp [rowBytes]
 omega

theorem diRows_put:∀ (t:List Row),(∀ r ∈ t,rowOk r=true)→∀ a z:List UInt8,diRows t.length (a ++ (rowsBytes t ++ z)) a.length=(t,a.length+(rowsBytes t).length,0)
 | [],_,a,z => by simp [diRows,rowsBytes]
 | r :: t,h,a,z => by
  have e1:=diTakeRow_put (h r (by simp)) a (rowsBytes t ++ z)
  have e2:=diRows_put t (fun x hx => h x (by simp [hx])) (a ++ rowBytes r) z
  have e3:a ++ (rowsBytes (r :: t) ++ z)=a ++ (rowBytes r ++ (rowsBytes t ++ z)):=by simp [rowsBytes_cons]
  have e4:(a ++ rowBytes r) ++ (rowsBytes t ++ z)=a ++ (rowBytes r ++ (rowsBytes t ++ z)):=by simp
  rw [e4,List.length_append] at e2
  rw [List.length_cons,e3]
  unfold diRows
  rw [e1]
  simp only [ne_eq,not_true_eq_false,if_false]
  rw [e2]
  simp only [not_true_eq_false,if_false]
  rw [rowsBytes_cons,List.length_append,Nat.add_assoc]

theorem diTake_put {t:List Row} (h:diMay t=true) (a z:List UInt8):diTake (a ++ (diBytes t ++ z)) (a.length:Int)=(t,a.length+(diBytes t).length,0):=by
 obtain⟨h1,h2,_⟩:=diMay_iff.1 h
 have e1:=vget_vput t.length (by omega) a (rowsBytes t ++ z)
 have e2:=diRows_put t h2 (a ++ vput t.length) z
 have e3:a ++ (diBytes t ++ z)=a ++ (vput t.length ++ (rowsBytes t ++ z)):=by simp [diBytes]
 have e4:(a ++ vput t.length) ++ (rowsBytes t ++ z)=a ++ (vput t.length ++ (rowsBytes t ++ z)):=by simp
 rw [e4,List.length_append] at e2
 unfold diTake
 rw [e3,e1]
 simp only [ne_eq,not_true_eq_false,if_false]
 rw [if_neg (by omega),e2]
 simp only [not_true_eq_false,if_false]
 rw [h]
 simp only [Bool.true_eq_false,if_false]
 simp only [diBytes,List.length_append,Nat.add_assoc]

theorem idTake_bytes {l:List UInt8} {p:Nat} {t:List UInt8} {f:Nat} (h:idTake l p=(t,f,0)):idIs t=true∧p≤f∧f≤l.length∧vput t.length ++ t=(l.drop p).take (f - p):=by
 unfold idTake at h
 by_cases h1:(vtake l p 16).2.2 ≠ 0
 ·rw [if_pos h1] at h
  simp only [Prod.mk.injEq] at h
  exact absurd h.2.2 h1
 ·rw [if_neg h1] at h
  by_cases h2:idIs (vtake l p 16).1=true
  ·rw [if_pos h2] at h
   rw [h] at h2
   have:=vtake_bytes h
   exact⟨h2,this.1,this.2.1,this.2.2.1⟩
  ·rw [if_neg h2] at h
   simp at h

theorem diTakeRow_bytes {l:List UInt8} {p:Nat} {r:Row} {f:Nat} (h:diTakeRow l p=(r,f,0)):rowOk r=true∧p≤f∧f≤l.length∧rowBytes r=(l.drop p).take (f - p):=by
 obtain⟨c,g,e,hc⟩ : ∃ c g e,idTake l p=(c,g,e):=⟨_,_,_,rfl⟩
 unfold diTakeRow at h
 rw [hc] at h
 simp only at h
 by_cases h1:e=0
 ·subst h1
  simp only [ne_eq,not_true_eq_false,if_false] at h
  obtain⟨v,k,e',hv⟩ : ∃ v k e',vaTake l g=(v,k,e'):=⟨_,_,_,rfl⟩
  rw [hv] at h
  simp only at h
  by_cases h2:e'=0
  ·subst h2
   simp only [not_true_eq_false,if_false,Prod.mk.injEq,and_true] at h
   obtain⟨rfl,rfl⟩:=h
   obtain⟨a1,a2,a3,a4⟩:=idTake_bytes hc
   obtain⟨b1,b2,b3,b4⟩:=vaPut_take hv
   refine ⟨by unfold rowOk; rw [a1,b1]; rfl,by omega,b3,?_⟩
   unfold rowBytes
   simp only
   rw [a4,b4,show k - p=(g - p)+(k - g) by omega,List.take_add,List.drop_drop]
   congr 3
   omega
  ·rw [if_pos h2] at h
   simp only [Prod.mk.injEq] at h
   exact absurd h.2.2 h2
 ·rw [if_pos h1] at h
  simp only [Prod.mk.injEq] at h
  exact absurd h.2.2 h1

theorem diRows_bytes:∀ (n:Nat) {l:List UInt8} {p:Nat} {t:List Row} {f:Nat},p≤l.length→diRows n l p=(t,f,0) →
  t.length=n∧(∀ r ∈ t,rowOk r=true)∧p≤f∧f≤l.length∧rowsBytes t=(l.drop p).take (f - p)
 | 0,l,p,t,f,hp,h => by
  simp only [diRows,Prod.mk.injEq,and_true] at h
  obtain⟨rfl,rfl⟩:=h
  exact⟨rfl,by simp,Nat.le_refl _,hp,by simp [rowsBytes]⟩
 | n+1,l,p,t,f,hp,h => by
  obtain⟨r,g,e,hr⟩ : ∃ r g e,diTakeRow l p=(r,g,e):=⟨_,_,_,rfl⟩
  unfold diRows at h
  rw [hr] at h
  simp only at h
  by_cases h1:e=0
  ·subst h1
   simp only [ne_eq,not_true_eq_false,if_false] at h
   obtain⟨u,k,e',hu⟩ : ∃ u k e',diRows n l g=(u,k,e'):=⟨_,_,_,rfl⟩
   rw [hu] at h
   simp only at h
   by_cases h2:e'=0
   ·subst h2
    simp only [not_true_eq_false,if_false,Prod.mk.injEq,and_true] at h
    obtain⟨rfl,rfl⟩:=h
    obtain⟨a1,a2,a3,a4⟩:=diTakeRow_bytes hr
    obtain⟨b1,b2,b3,b4,b5⟩:=diRows_bytes n a3 hu
    refine ⟨by simp [b1],?_,by omega,b4,?_⟩
    ·intro x hx
     rcases List.mem_cons.1 hx with rfl | hx
     ·exact a1
     ·exact b2 x hx
    ·rw [rowsBytes_cons,a4,b5,show k - p=(g - p)+(k - g) by omega,List.take_add,List.drop_drop]
     congr 3
     omega
   ·rw [if_pos h2] at h
    simp only [Prod.mk.injEq] at h
    exact absurd h.2.2 h2
  ·rw [if_pos h1] at h
   simp only [Prod.mk.injEq] at h
   exact absurd h.2.2 h1

theorem vget_in_facts {l:List UInt8} {p:Int} {n f:Nat} (h:vget l p=(n,f,0)):0≤p∧p.toNat≤f∧f≤l.length∧vput n=(l.drop p.toNat).take (f - p.toNat):=by
 have hp:0≤p:=by
  by_cases h0:0≤p
  ·exact h0
  ·unfold vget at h
   rw [if_pos (.inl (by omega))] at h
   simp at h
 obtain⟨q,rfl⟩:=Int.eq_ofNat_of_zero_le hp
 have:=vget_bytes h
 exact⟨hp,by simpa using this.1,this.2.1,by simpa using this.2.2⟩

/-! ### The sum -/

def fnvM:Nat:=18446744073709551616
def fnvP:Nat:=1099511628211
def fnvB:Nat:=14695981039346656037
def fnv1 (h:Nat) (b:UInt8):Nat:=((h ^^^ b.toNat) * fnvP) % fnvM
def fnv (l:List UInt8):Nat:=l.foldl fnv1 fnvB
def diSum (t:List Row):Nat:=fnv (diPut t).1

theorem foldl_snoc {α β:Type} (f:β→α→β) (i:β) (l:List α) (b:α):(l ++ [b]).foldl f i=f (l.foldl f i) b:=by simp

theorem fnv_snoc (l:List UInt8) (b:UInt8):fnv (l ++ [b])=fnv1 (fnv l) b:=foldl_snoc fnv1 fnvB l b

theorem fnvM_pos:0 < fnvM:=by unfold fnvM; omega

theorem fnv_lt (l:List UInt8):fnv l < fnvM:=by
 rcases List.eq_nil_or_concat l with rfl | ⟨a,b,rfl⟩
 ·show fnvB < fnvM
  unfold fnvB fnvM
  omega
 ·rw [List.concat_eq_append,fnv_snoc]
  unfold fnv1
  exact Nat.mod_lt _ fnvM_pos

/-! ### Get and Set -/

def diGet:List Row→List UInt8→Val × Bool
 | [],_ => (Val.zero,false)
 | r :: t,x => if r.c=x then (r.v,true) else diGet t x

def gSame (p q:Val × Bool):Bool:=vSame p.1 q.1 && (p.2 == q.2)

def diRest (t:List Row) (x:List UInt8):List Row:=t.filter fun r => !(r.c == x)

def plc (t:List Row) (x:List UInt8):Nat→Nat
 | 0 => 0
 | k+1 => if idLess (t.getD k Row.zero).c x=true then k+1 else plc t x k

theorem plc_le (t:List Row) (x:List UInt8):∀ k,plc t x k≤k
 | 0 => Nat.le_refl _
 | k+1 => by
  unfold plc
  split
  ·exact Nat.le_refl _
  ·exact Nat.le_succ_of_le (plc_le t x k)

def diPlace (t:List Row) (x:List UInt8):Nat:=plc t x t.length

def diIns (t:List Row) (r:Row):List Row:=t.take (diPlace t r.c) ++ ([r] ++ t.drop (diPlace t r.c))

def diSet (t:List Row) (c:Chg):List Row:=if c.on=true then diIns (diRest t c.c) ⟨c.c,c.v⟩ else diRest t c.c

def chGet (c:Chg):Val × Bool:=if c.on=true then (c.v,true) else (Val.zero,false)

theorem diGet_none:∀ {t:List Row} {x:List UInt8},(∀ r ∈ t,¬ r.c=x)→diGet t x=(Val.zero,false)
 | [],_,_ => rfl
 | r :: t,x,h => by
  unfold diGet
  rw [if_neg (h r (by simp)),diGet_none (fun s hs => h s (by simp [hs]))]

theorem diGet_hit {r:Row} {x:List UInt8} (h:r.c=x) (t:List Row):diGet (r :: t) x=(r.v,true):=by unfold diGet; rw [if_pos h]
theorem diGet_miss {r : Row} {x : List UInt8} (h : ¬ r.c = x) (t : List Row) : diGet (r :: t) x = diGet t x := by conv => lhs; unfold diGet
                                                                                                                  rw [if_neg h]

theorem diGet_append:∀ (a b:List Row) (x:List UInt8),diGet (a ++ b) x=if (diGet a x).2=true then diGet a x else diGet b x
 | [],b,x => by simp [diGet]
 | r :: a,b,x => by
  rw [List.cons_append]
  by_cases h:r.c=x
  ·rw [diGet_hit h,diGet_hit h]; simp
  ·rw [diGet_miss h,diGet_miss h]
   exact diGet_append a b x

theorem diGet_some {t:List Row} {x:List UInt8}:∀ {v:Val},diGet t x=(v,true)→⟨x,v⟩ ∈ t:=by
 induction t with
 | nil => intro v h; simp [diGet] at h
 | cons r t ih =>
  intro v h
  unfold diGet at h
  by_cases hr:r.c=x
  ·rw [if_pos hr] at h
   simp only [Prod.mk.injEq,and_true] at h
   subst hr h
   simp
  ·rw [if_neg hr] at h
   exact List.mem_cons_of_mem _ (ih h)

theorem diGet_rest_same (t:List Row) (x:List UInt8):diGet (diRest t x) x=(Val.zero,false):=by
 refine diGet_none fun r hr => ?_
 have:=(List.mem_filter.1 hr).2
 simpa using this

theorem diGet_rest_other {x y:List UInt8} (h:¬ y=x):∀ t:List Row,diGet (diRest t x) y=diGet t y
 | [] => rfl
 | r :: t => by
  have ih:=diGet_rest_other h t
  unfold diRest at ih ⊢
  by_cases hr:r.c=x
  ·have:(!(r.c == x))=false:=by simp [hr]
   rw [List.filter_cons_of_neg (by simp [this])]
   rw [ih]
   conv => rhs; unfold diGet
   rw [if_neg (fun e => h (e.symm.trans hr))]
  ·rw [List.filter_cons_of_pos (by simpa using hr)]
   unfold diGet
   rw [ih]

theorem diGet_ins (t:List Row) (r:Row) (x:List UInt8) (h0:diGet t r.c=(Val.zero,false)):diGet (diIns t r) x=if x=r.c then (r.v,true) else diGet t x:=by
 unfold diIns
 have hsplit:diGet t x=if (diGet (t.take (diPlace t r.c)) x).2=true then diGet (t.take (diPlace t r.c)) x else diGet (t.drop (diPlace t r.c)) x:=by
  rw [← diGet_append,List.take_append_drop]
 have hmid:diGet ([r] ++ t.drop (diPlace t r.c)) x=if r.c=x then (r.v,true) else diGet (t.drop (diPlace t r.c)) x:=by
  simp [diGet]
 rw [diGet_append,hmid]
 by_cases hx:x=r.c
 ·subst hx
  have:(diGet (t.take (diPlace t r.c)) r.c).2=false:=by
   rw [h0] at hsplit
   cases hh:(diGet (t.take (diPlace t r.c)) r.c).2 with
   | false => rfl
   | true =>
    rw [if_pos hh] at hsplit
    rw [← hsplit] at hh
    cases hh
  rw [if_neg (by rw [this]; decide),if_pos rfl,if_pos rfl]
 ·have hx':¬ r.c=x:=fun e => hx e.symm
  rw [if_neg hx,hsplit]
  simp only [if_neg hx']

theorem diGet_set (t:List Row) (c:Chg) (x:List UInt8):diGet (diSet t c) x=if x=c.c then chGet c else diGet t x:=by
 unfold diSet chGet
 by_cases ho:c.on=true
 ·rw [if_pos ho,if_pos ho,diGet_ins _ _ _ (diGet_rest_same t c.c)]
  by_cases hx:x=c.c
  ·rw [if_pos hx,if_pos hx]
  ·rw [if_neg hx,if_neg hx,diGet_rest_other hx]
 ·rw [if_neg ho,if_neg ho]
  by_cases hx:x=c.c
  ·rw [if_pos hx,hx,diGet_rest_same]
  ·rw [if_neg hx,diGet_rest_other hx]

/-! ### Rising tables -/

theorem rest_rise {t:List Row} (h:RRise t) (x:List UInt8):RRise (diRest t x):=List.Pairwise.filter _ h

theorem plc_before {t:List Row} {x:List UInt8} (h:RRise t):∀ k,k≤t.length→∀ i,i < plc t x k→idLess (t.getD i Row.zero).c x=true
 | 0,_,i,hi => by simp [plc] at hi
 | k+1,hk,i,hi => by
  unfold plc at hi
  by_cases hl:idLess (t.getD k Row.zero).c x=true
  ·rw [if_pos hl] at hi
   by_cases he:i=k
   ·rw [he]; exact hl
   ·have:=List.pairwise_iff_getElem.1 h i k (by omega) (by omega) (by omega)
    rw [row_get (show i < t.length by omega),row_get (show k < t.length by omega)] at this
    exact idLess_trans this hl
  ·rw [if_neg hl] at hi
   exact plc_before h k (by omega) i hi

theorem plc_after {t:List Row} {x:List UInt8}:∀ k,k≤t.length→∀ i,plc t x k≤i→i < k→idLess (t.getD i Row.zero).c x=false
 | 0,_,i,_,hi => by omega
 | k+1,hk,i,h1,h2 => by
  unfold plc at h1
  by_cases hl:idLess (t.getD k Row.zero).c x=true
  ·rw [if_pos hl] at h1
   omega
  ·rw [if_neg hl] at h1
   by_cases he:i=k
   ·rw [he]; simpa using hl
   ·exact plc_after k (by omega) i h1 (by omega)

theorem ins_rise {t:List Row} {r:Row} (h:RRise t) (hn:∀ s ∈ t,¬ s.c=r.c):RRise (diIns t r):=by
 have hp:=plc_le t r.c t.length
 unfold diIns
 have hb:∀ s ∈ t.take (diPlace t r.c),idLess s.c r.c=true:=by
  intro s hs
  obtain⟨i,hi,rfl⟩:=List.getElem_of_mem hs
  have hi':i < diPlace t r.c:=by simp at hi; omega
  rw [List.getElem_take,row_get (by unfold diPlace at hi'; omega)]
  exact plc_before h t.length (Nat.le_refl _) i hi'
 have ha:∀ s ∈ t.drop (diPlace t r.c),idLess r.c s.c=true:=by
  intro s hs
  obtain⟨i,hi,rfl⟩:=List.getElem_of_mem hs
  have hi':diPlace t r.c+i < t.length:=by simp at hi; omega
  have h1:=plc_after (x:=r.c) t.length (Nat.le_refl _) (diPlace t r.c+i) (by unfold diPlace; omega) hi'
  have h2:=hn _ (List.getElem_mem hi')
  rw [row_get hi'] at h2
  rw [List.getElem_drop,row_get hi']
  rcases idLess_tri (t.getD (diPlace t r.c+i) Row.zero).c r.c with h3 | h3 | h3
  ·rw [h1] at h3; cases h3.1
  ·exact h3.2.1
  ·exact absurd h3.2.2 h2
 unfold RRise at h ⊢
 rw [List.pairwise_append]
 refine ⟨List.Pairwise.sublist (List.take_sublist _ _) h,?_,?_⟩
 ·rw [List.singleton_append,List.pairwise_cons]
  exact⟨ha,List.Pairwise.sublist (List.drop_sublist _ _) h⟩
 ·intro a ha' b hb'
  rcases List.mem_append.1 hb' with h1 | h1
  ·simp only [List.mem_singleton] at h1
   subst h1
   exact hb a ha'
  ·exact idLess_trans (hb a ha') (ha b h1)

theorem set_rise {t:List Row} (h:RRise t) (c:Chg):RRise (diSet t c):=by
 unfold diSet
 by_cases ho:c.on=true
 ·rw [if_pos ho]
  refine ins_rise (rest_rise h _) fun s hs => ?_
  have:=(List.mem_filter.1 hs).2
  simpa using this
 ·rw [if_neg ho]
  exact rest_rise h _

theorem rise_ext:∀ {a b:List Row},RRise a→RRise b→(∀ x,diGet a x=diGet b x)→a=b
 | [],[],_,_,_ => rfl
 | [],r :: b,_,_,h => by have:=h r.c; simp [diGet] at this
 | r :: a,[],_,_,h => by have:=h r.c; simp [diGet] at this
 | r :: a,s :: b,ha,hb,h => by
  obtain⟨ha1,ha2⟩:=List.pairwise_cons.1 ha
  obtain⟨hb1,hb2⟩:=List.pairwise_cons.1 hb
  have out:∀ {z:Row} {l:List Row},(∀ y ∈ l,idLess z.c y.c=true)→diGet l z.c=(Val.zero,false):=fun hz => diGet_none fun y hy e => by
   have:=hz y hy
   rw [e,idLess_irrefl] at this
   cases this
  have hc:r.c=s.c:=by
   by_cases hc:r.c=s.c
   ·exact hc
   ·have h1:=h r.c
    have h2:=h s.c
    unfold diGet at h1 h2
    rw [if_pos rfl,if_neg (fun e => hc e.symm)] at h1
    rw [if_pos rfl,if_neg hc] at h2
    have m1:=diGet_some h1.symm
    have m2:=diGet_some h2
    have p:=hb1 _ m1
    have q:=ha1 _ m2
    have:=idLess_trans p q
    rw [idLess_irrefl] at this
    cases this
  have hv:r.v=s.v:=by
   have h1:=h r.c
   unfold diGet at h1
   rw [if_pos rfl,if_pos hc.symm] at h1
   exact (Prod.mk.injEq .. ▸ h1).1
  have he:r=s:=by
   obtain⟨_,_⟩:=r
   obtain⟨_,_⟩:=s
   simp only at hc hv
   subst hc hv
   rfl
  subst he
  rw [rise_ext ha2 hb2 fun x => ?_]
  have hx:=h x
  unfold diGet at hx
  by_cases e:r.c=x
  ·subst e
   rw [out ha1,out hb1]
  ·rwa [if_neg e,if_neg e] at hx

theorem rest_len (t:List Row) (x:List UInt8):(diRest t x).length≤t.length:=List.length_filter_le _ _

theorem diIns_len (t:List Row) (r:Row):(diIns t r).length=t.length+1:=by
 have:=plc_le t r.c t.length
 unfold diIns diPlace
 simp
 omega

theorem set_len (t:List Row) (c:Chg):(diSet t c).length≤t.length+1:=by
 have:=rest_len t c.c
 unfold diSet
 split
 ·rw [diIns_len]; omega
 ·omega

theorem set_mem {t:List Row} {c:Chg} {r:Row} (h:r ∈ diSet t c):r ∈ t∨(c.on=true∧r=⟨c.c,c.v⟩):=by
 unfold diSet at h
 by_cases ho:c.on=true
 ·rw [if_pos ho] at h
  unfold diIns at h
  rcases List.mem_append.1 h with h | h
  ·exact .inl (List.mem_filter.1 (List.mem_of_mem_take h)).1
  ·rcases List.mem_append.1 h with h | h
   ·exact .inr ⟨ho,by simpa using h⟩
   ·exact .inl (List.mem_filter.1 (List.mem_of_mem_drop h)).1
 ·rw [if_neg ho] at h
  exact .inl (List.mem_filter.1 h).1

theorem set_has {t:List Row} {c:Chg} (h:c.on=true):(⟨c.c,c.v⟩ : Row) ∈ diSet t c:=by
 unfold diSet
 rw [if_pos h]
 unfold diIns
 simp

theorem set_may {t:List Row} (h:diMay t=true) (c:Chg):diMay (diSet t c)=(!c.on || (rowOk ⟨c.c,c.v⟩ && decide ((diSet t c).length≤32))):=by
 obtain⟨h1,h2,h3⟩:=diMay_iff.1 h
 cases ho:c.on with
 | false =>
  simp only [Bool.not_false,Bool.true_or]
  refine diMay_iff.2 ⟨?_,?_,set_rise h3 c⟩
  ·unfold diSet
   rw [ho]
   have:=rest_len t c.c
   simp only [Bool.false_eq_true,if_false]
   omega
  ·intro r hr
   rcases set_mem hr with hr | ⟨e,_⟩
   ·exact h2 r hr
   ·rw [ho] at e; cases e
 | true =>
  simp only [Bool.not_true,Bool.false_or]
  rw [Bool.eq_iff_iff,diMay_iff]
  simp only [Bool.and_eq_true,decide_eq_true_eq]
  constructor
  ·rintro ⟨a,b,_⟩
   exact⟨b _ (set_has ho),a⟩
  ·rintro ⟨a,b⟩
   refine ⟨b,fun r hr => ?_,set_rise h3 c⟩
   rcases set_mem hr with hr | ⟨_,rfl⟩
   ·exact h2 r hr
   ·exact a

/-! ### Changes -/

def cts (t:List Row):List (List UInt8):=t.map (·.c)

def chg (a b:List Row) (x:List UInt8):Option Chg:=if gSame (diGet a x) (diGet b x)=true then none else some ⟨x,(diGet b x).2,(diGet b x).1⟩

def diChanges (a b:List Row):List Chg:=(mrg (cts a ++ cts b)).filterMap (chg a b)

def setAll (t:List Row) (l:List Chg):List Row:=l.foldl diSet t

theorem setAll_snoc (t:List Row) (l:List Chg) (c:Chg):setAll t (l ++ [c])=diSet (setAll t l) c:=by simp [setAll]

theorem setAll_rise:∀ (l:List Chg) {t:List Row},RRise t→RRise (setAll t l)
 | [],_,h => h
 | c :: l,_,h => setAll_rise l (set_rise h c)

theorem setAll_len:∀ (l:List Chg) (t:List Row),(setAll t l).length≤t.length+l.length
 | [],t => by simp [setAll]
 | c :: l,t => by
  have:=setAll_len l (diSet t c)
  have:=set_len t c
  show (setAll (diSet t c) l).length≤_
  simp only [List.length_cons]
  omega

theorem setAll_out:∀ (l:List Chg) {t:List Row} {x:List UInt8},(∀ c ∈ l,¬ c.c=x)→diGet (setAll t l) x=diGet t x
 | [],_,_,_ => rfl
 | c :: l,t,x,h => by
  show diGet (setAll (diSet t c) l) x=_
  rw [setAll_out l (fun d hd => h d (by simp [hd])),diGet_set,if_neg (fun e => h c (by simp) e.symm)]

theorem setAll_in:∀ (l:List Chg) {t:List Row} {c:Chg},l.Pairwise (fun x y => ¬ x.c=y.c)→c ∈ l→diGet (setAll t l) c.c=chGet c
 | [],_,_,_,h => by cases h
 | d :: l,t,c,hp,h => by
  obtain⟨h1,h2⟩:=List.pairwise_cons.1 hp
  show diGet (setAll (diSet t d) l) c.c=_
  rcases List.mem_cons.1 h with rfl | h
  ·rw [setAll_out l (fun e he => fun e' => h1 e he e'.symm),diGet_set,if_pos rfl]
  ·exact setAll_in l h2 h

end Go.Proofs.YtekkofldhhdpgaaGreat

end

section

namespace Go.Proofs.YtekkofldhhdpgaaGreat

structure Que where
 l:List Chg
 la:Bool

def Chg.nought:Chg:=⟨[],false,Val.zero⟩

def quOne (c:Chg):Bool:=idIs c.c && (if c.on=true then vaMay c.v else vSame c.v Val.zero)
def quAt (l:List Chg) (x:List UInt8):Nat:=l.findIdx fun c => c.c == x
def quHas (l:List Chg) (x:List UInt8):Bool:=decide (quAt l x < l.length)
def quNo2 (l:List Chg):Prop:=(l.map (·.c)).Nodup
instance (l:List Chg):Decidable (quNo2 l):=by unfold quNo2; infer_instance
def quMay (q:Que) (room:Int):Bool:=decide ((q.l.length:Int)≤room) && !(q.la && decide (0 < q.l.length)) && q.l.all quOne && decide (quNo2 q.l)
def quEmpty (q:Que):Bool:=decide (q.l.length=0) && !q.la
def quFind (q:Que) (x:List UInt8):Chg × Bool:=if quHas q.l x=true then (q.l.getD (quAt q.l x) Chg.nought,true) else (Chg.nought,false)
def quPush (q:Que) (c:Chg) (room:Int):Que :=
 if q.la=true then q else if quHas q.l c.c=true then ⟨q.l.set (quAt q.l c.c) c,false⟩ else if (q.l.length:Int) < room then ⟨q.l ++ [c],false⟩ else ⟨[],true⟩
def quPop (q:Que):Chg × Que × Bool:=match q.l with
 | [] => (Chg.nought,q,false)
 | c :: l => (c,⟨l,q.la⟩,true)

theorem quAt_le (l:List Chg) (x:List UInt8):quAt l x≤l.length:=List.findIdx_le_length

theorem quHas_iff {l:List Chg} {x:List UInt8}:quHas l x=true ↔ ∃ c ∈ l,c.c=x:=by
 unfold quHas quAt
 rw [decide_eq_true_eq,List.findIdx_lt_length]
 simp [beq_iff_eq]

theorem quHas_no {l:List Chg} {x:List UInt8} (h:quHas l x=false):∀ c ∈ l,¬ c.c=x:=fun c hc e => by
 rw [quHas_iff.2 ⟨c,hc,e⟩] at h
 cases h

theorem quAt_is {l:List Chg} {x:List UInt8} (h:quHas l x=true):quAt l x < l.length∧(l.getD (quAt l x) Chg.nought).c=x:=by
 unfold quHas at h
 rw [decide_eq_true_eq] at h
 refine ⟨h,?_⟩
 rw [List.getD_eq_getElem?_getD,List.getElem?_eq_getElem h]
 have:=List.findIdx_getElem (p:=fun c:Chg => c.c == x) (w:=h)
 rw [beq_iff_eq] at this
 exact this

theorem quAt_not {l:List Chg} {x:List UInt8} {k:Nat} (h:k < quAt l x):¬ (l.getD k Chg.nought).c=x:=by
 have hk:k < l.length:=Nat.lt_of_lt_of_le h (quAt_le l x)
 rw [List.getD_eq_getElem?_getD,List.getElem?_eq_getElem hk]
 have:=List.not_of_lt_findIdx (p:=fun c:Chg => c.c == x) h
 simpa [beq_iff_eq] using this

theorem quAt_of {l:List Chg} {x:List UInt8} {k:Nat} (hk:k < l.length) (h:(l.getD k Chg.nought).c=x) (hn:∀ i,i < k→¬ (l.getD i Chg.nought).c=x):quAt l x=k:=by
 rcases Nat.lt_trichotomy (quAt l x) k with h1 | h1 | h1
 ·have hh:quHas l x=true:=by unfold quHas; rw [decide_eq_true_eq]; omega
  exact absurd (quAt_is hh).2 (hn _ h1)
 ·exact h1
 ·exact absurd h (quAt_not h1)

/-! ### each text once -/
theorem nodup_sub:∀ (a b:List (List UInt8)),a.Nodup→(∀ x ∈ a,x ∈ b)→a.length≤b.length
 | [],_,_,_ => Nat.zero_le _
 | x :: a,b,h,hs => by
  have h':=List.nodup_cons.1 h
  have hx:x ∈ b:=hs x (by simp)
  have:=nodup_sub a (b.erase x) h'.2 fun y hy => (List.mem_erase_of_ne (fun e => h'.1 (by rw [← e]; exact hy))).2 (hs y (by simp [hy]))
  rw [List.length_erase_of_mem hx] at this
  have hpos:0 < b.length:=List.length_pos_iff.2 (fun e => by rw [e] at hx; cases hx)
  simp only [List.length_cons]
  omega

theorem nodup_less:∀ (l a:List (List UInt8)),a.Nodup→(∀ x ∈ a,x ∈ l)→¬ l.Nodup→a.length < l.length
 | [],_,_,_,hn => absurd List.nodup_nil hn
 | x :: l,a,ha,hs,hn => by
  by_cases hx:x ∈ l
  ·have:=nodup_sub a l ha fun y hy => by
    rcases List.mem_cons.1 (hs y hy) with e | h
    ·rw [e]; exact hx
    ·exact h
   simp only [List.length_cons]
   omega
  ·have hl:¬ l.Nodup:=fun h => hn (List.nodup_cons.2 ⟨hx,h⟩)
   have:=nodup_less l (a.erase x) (ha.sublist List.erase_sublist) (fun y hy => by
    have hy':=(List.Nodup.mem_erase_iff ha).1 hy
    exact (List.mem_cons.1 (hs y hy'.2)).resolve_left hy'.1) hl
   have h1:a.length≤(a.erase x).length+1:=by
    by_cases hm:x ∈ a
    ·rw [List.length_erase_of_mem hm]; omega
    ·rw [List.erase_of_not_mem hm]; omega
   simp only [List.length_cons]
   omega

theorem rising_nodup {l:List (List UInt8)} (h:Rising l):l.Nodup:=by
 unfold Rising at h
 refine h.imp fun {a b} hab e => ?_
 rw [e,idLess_irrefl] at hab
 cases hab

theorem mrg_full (l:List (List UInt8)):(mrg l).length=l.length ↔ l.Nodup:=by
 have hr:=rising_nodup (mrg_rising l)
 constructor
 ·intro h
  refine Classical.byContradiction fun hn => ?_
  have:=nodup_less l (mrg l) hr (fun x hx => (mrg_mem l x).1 hx) hn
  omega
 ·intro h
  have h1:=nodup_sub (mrg l) l hr fun x hx => (mrg_mem l x).1 hx
  have h2:=nodup_sub l (mrg l) h fun x hx => (mrg_mem l x).2 hx
  omega

/-! ### what is pushed -/
theorem quMay_iff {q:Que} {room:Int}:quMay q room=true ↔ (q.l.length:Int)≤room∧(q.la=true→q.l=[])∧(∀ c ∈ q.l,quOne c=true)∧quNo2 q.l:=by
 unfold quMay
 simp only [Bool.and_eq_true,decide_eq_true_eq,Bool.not_eq_true',Bool.and_eq_false_iff,decide_eq_false_iff_not,List.all_eq_true]
 constructor
 ·rintro ⟨⟨⟨h1,h2⟩,h3⟩,h4⟩
  refine ⟨h1,fun hl => ?_,h3,h4⟩
  rcases h2 with h2 | h2
  ·rw [hl] at h2; cases h2
  ·exact List.length_eq_zero_iff.1 (by omega)
 ·rintro ⟨h1,h2,h3,h4⟩
  refine ⟨⟨⟨h1,?_⟩,h3⟩,h4⟩
  cases hl:q.la
  ·exact .inl rfl
  ·right; rw [h2 hl]; simp

theorem set_contacts {l:List Chg} {c:Chg} (h:quHas l c.c=true):(l.set (quAt l c.c) c).map (·.c)=l.map (·.c):=by
 obtain⟨hlt,he⟩:=quAt_is h
 rw [List.map_set]
 refine List.ext_getElem (by simp) fun i h1 h2 => ?_
 rw [List.getElem_set]
 split
 ·rename_i e
  subst e
  rw [List.getElem_map]
  rw [List.getD_eq_getElem?_getD,List.getElem?_eq_getElem hlt] at he
  exact he.symm
 ·rfl

theorem quPush_no2 {q:Que} {c:Chg} {room:Int} (h:quNo2 q.l):quNo2 (quPush q c room).l:=by
 unfold quPush
 split
 ·exact h
 ·split
  ·rename_i hh
   show (List.map _ _).Nodup
   rw [set_contacts hh]
   exact h
  ·rename_i hh
   split
   ·show (List.map _ _).Nodup
    rw [List.map_append,List.nodup_append]
    refine ⟨h,by simp,fun a ha b hb e => ?_⟩
    simp only [List.map_cons,List.map_nil,List.mem_singleton] at hb
    obtain⟨x,hx,rfl⟩:=List.mem_map.1 ha
    exact quHas_no (by simpa using hh) x hx (by rw [← hb]; exact e)
   ·exact List.nodup_nil

theorem quPush_mem {q:Que} {c x:Chg} {room:Int} (h:x ∈ (quPush q c room).l):x=c∨x ∈ q.l:=by
 unfold quPush at h
 split at h
 ·exact .inr h
 ·split at h
  ·exact (List.mem_or_eq_of_mem_set h).symm
  ·split at h
   ·rcases List.mem_append.1 h with h | h
    ·exact .inr h
    ·exact .inl (by simpa using h)
   ·cases h

theorem quPush_len {q:Que} {c:Chg} {room:Int} (h:(q.l.length:Int)≤room):((quPush q c room).l.length:Int)≤room:=by
 unfold quPush
 split
 ·exact h
 ·split
  ·simpa using h
  ·split
   ·rename_i h1
    simp only [List.length_append,List.length_cons,List.length_nil]
    omega
   ·simp only [List.length_nil]
    omega

theorem quPush_may {q:Que} {c:Chg} {room:Int} (h:quMay q room=true) (hc:quOne c=true):quMay (quPush q c room) room=true:=by
 obtain⟨h1,h2,h3,h4⟩:=quMay_iff.1 h
 refine quMay_iff.2 ⟨quPush_len h1,fun hl => ?_,fun x hx => ?_,quPush_no2 h4⟩
 ·unfold quPush at hl ⊢
  split at hl
  ·rename_i hq
   rw [if_pos hq]
   exact h2 hq
  ·rename_i hq
   rw [if_neg hq]
   split at hl
   ·cases hl
   ·rename_i hh
    rw [if_neg hh]
    split at hl
    ·cases hl
    ·rename_i hr
     rw [if_neg hr]
 ·rcases quPush_mem hx with e | h'
  ·rw [e]; exact hc
  ·exact h3 x h'

theorem quPush_ways (q:Que) (c:Chg) (room:Int):(q.la=true∧quPush q c room=q) ∨
  (q.la=false∧quHas q.l c.c=true∧quPush q c room=⟨q.l.set (quAt q.l c.c) c,false⟩) ∨
  (q.la=false∧quHas q.l c.c=false∧(q.l.length:Int) < room∧quPush q c room=⟨q.l ++ [c],false⟩) ∨
  (q.la=false∧quHas q.l c.c=false∧room≤(q.l.length:Int)∧quPush q c room=⟨[],true⟩):=by
 unfold quPush
 cases hl:q.la
 ·right
  rw [if_neg (by simp)]
  cases hh:quHas q.l c.c
  ·right
   rw [if_neg (by simp)]
   by_cases hr:(q.l.length:Int) < room
   ·left; exact⟨rfl,rfl,hr,if_pos hr⟩
   ·right; exact⟨rfl,rfl,by omega,if_neg hr⟩
  ·left; exact⟨rfl,rfl,if_pos rfl⟩
 ·left; exact⟨rfl,if_pos rfl⟩

theorem quPush_there {q:Que} {c:Chg} {room:Int} (h:(quPush q c room).la=false):q.la=false∧quHas (quPush q c room).l c.c=true∧quFind (quPush q c room) c.c=(c,true)∧q.l.length≤(quPush q c room).l.length∧(quPush q c room).l.length≤q.l.length+1 ∧
  ∀ i,i < q.l.length→((quPush q c room).l.getD i Chg.nought).c=(q.l.getD i Chg.nought).c∧((q.l.getD i Chg.nought).c ≠ c.c→(quPush q c room).l.getD i Chg.nought=q.l.getD i Chg.nought):=by
 rcases quPush_ways q c room with ⟨hl,e⟩ | ⟨hl,hh,e⟩ | ⟨hl,hh,hr,e⟩ | ⟨hl,hh,hr,e⟩
 ·rw [e,hl] at h; cases h
 ·rw [e]
  obtain⟨hlt,he⟩:=quAt_is hh
  have hm:(q.l.set (quAt q.l c.c) c).getD (quAt q.l c.c) Chg.nought=c:=by
   rw [List.getD_eq_getElem?_getD,List.getElem?_set_self hlt]; rfl
  have hat:quAt (q.l.set (quAt q.l c.c) c) c.c=quAt q.l c.c:=by
   refine quAt_of (by simpa using hlt) (by rw [hm]) fun i hi => ?_
   rw [List.getD_eq_getElem?_getD,List.getElem?_set_ne (by omega),← List.getD_eq_getElem?_getD]
   exact quAt_not hi
  have hhas:quHas (q.l.set (quAt q.l c.c) c) c.c=true:=by
   unfold quHas; rw [decide_eq_true_eq,hat]; simpa using hlt
  refine ⟨hl,hhas,?_,by simp,by simp,fun i hi => ?_⟩
  ·unfold quFind
   simp only
   rw [if_pos hhas,hat,hm]
  ·by_cases hi':i=quAt q.l c.c
   ·subst hi'
    simp only
    rw [hm,he]
    exact⟨rfl,fun h => absurd rfl h⟩
   ·simp only
    rw [List.getD_eq_getElem?_getD,List.getElem?_set_ne (fun h => hi' h.symm),← List.getD_eq_getElem?_getD]
    exact⟨rfl,fun _ => rfl⟩
 ·rw [e]
  have hm:(q.l ++ [c]).getD q.l.length Chg.nought=c:=by
   rw [List.getD_eq_getElem?_getD,List.getElem?_append_right (Nat.le_refl _)]; simp
  have hat:quAt (q.l ++ [c]) c.c=q.l.length:=by
   refine quAt_of (by simp) (by rw [hm]) fun i hi => ?_
   rw [List.getD_eq_getElem?_getD,List.getElem?_append_left hi,List.getElem?_eq_getElem hi]
   exact quHas_no hh _ (List.getElem_mem hi)
  have hhas:quHas (q.l ++ [c]) c.c=true:=by
   unfold quHas; rw [decide_eq_true_eq,hat]; simp
  refine ⟨hl,hhas,?_,by simp,by simp,fun i hi => ?_⟩
  ·unfold quFind
   simp only
   rw [if_pos hhas,hat,hm]
  ·simp only
   rw [List.getD_eq_getElem?_getD,List.getElem?_append_left hi,← List.getD_eq_getElem?_getD]
   exact⟨rfl,fun _ => rfl⟩
 ·rw [e] at h; cases h

theorem setAll_get {t:List Row} {l:List Chg} (h:quNo2 l) (y:List UInt8):(∀ c ∈ l,c.c=y→diGet (setAll t l) y=chGet c)∧((∀ c ∈ l,¬ c.c=y)→diGet (setAll t l) y=diGet t y):=by
 refine ⟨fun c hc e => ?_,fun hn => setAll_out l hn⟩
 have hp:l.Pairwise fun x y => ¬ x.c=y.c:=by
  unfold quNo2 List.Nodup at h
  rw [List.pairwise_map] at h
  exact h
 rw [← e]
 exact setAll_in l hp hc

theorem over_push {t:List Row} (ht:RRise t) {q:Que} {c:Chg} {room:Int} (h:quNo2 q.l) (hn:(quPush q c room).la=false):setAll t (quPush q c room).l=diSet (setAll t q.l) c:=by
 refine rise_ext (setAll_rise _ ht) (set_rise (setAll_rise _ ht) c) fun y => ?_
 have h':quNo2 (quPush q c room).l:=quPush_no2 h
 obtain⟨a1,a2⟩:=setAll_get (t:=t) h y
 obtain⟨b1,b2⟩:=setAll_get (t:=t) h' y
 obtain⟨hl,hhas,hf,hlen',_,hall⟩:=quPush_there hn
 have hcm:c ∈ (quPush q c room).l:=by
  obtain⟨hlt,_⟩:=quAt_is hhas
  unfold quFind at hf
  rw [if_pos hhas] at hf
  have:=(Prod.mk.inj hf).1
  rw [List.getD_eq_getElem?_getD,List.getElem?_eq_getElem hlt] at this
  have h1:=List.getElem_mem hlt
  simp only [Option.getD_some] at this
  rw [this] at h1
  exact h1
 rw [diGet_set]
 by_cases hy:y=c.c
 ·rw [if_pos hy,b1 c hcm hy.symm]
 ·rw [if_neg hy]
  by_cases hx:∃ x ∈ q.l,x.c=y
  ·obtain⟨x,hx,e⟩:=hx
   rw [a1 x hx e]
   obtain⟨i,hi,rfl⟩:=List.getElem_of_mem hx
   obtain⟨_,h2⟩:=hall i hi
   refine b1 _ ?_ e
   have hne:(q.l.getD i Chg.nought).c ≠ c.c:=by
    rw [List.getD_eq_getElem?_getD,List.getElem?_eq_getElem hi]
    simp only [Option.getD_some]
    rw [e]
    exact hy
   have:=h2 hne
   have hlt:i < (quPush q c room).l.length:=Nat.lt_of_lt_of_le hi hlen'
   rw [List.getD_eq_getElem?_getD,List.getD_eq_getElem?_getD,List.getElem?_eq_getElem hi,List.getElem?_eq_getElem hlt] at this
   simp only [Option.getD_some] at this
   rw [← this]
   exact List.getElem_mem _
  ·rw [a2 fun x hx' e => hx ⟨x,hx',e⟩]
   exact b2 fun x hx' e => by
    rcases quPush_mem hx' with e' | hx''
    ·exact hy (by rw [← e,e'])
    ·exact hx ⟨x,hx'',e⟩

theorem quNo2_tail {c:Chg} {l:List Chg} (h:quNo2 (c :: l)):quNo2 l:=by
 unfold quNo2 at h ⊢
 rw [List.map_cons] at h
 exact (List.nodup_cons.1 h).2

end Go.Proofs.YtekkofldhhdpgaaGreat

end

section

namespace Go.Proofs.YtekkofldhhdpgaaGreat
open Go.RowKit

def bvals (l:List UInt8):List Value:=l.map fun b => .int .u8 b.toNat

theorem ret_int {k:IntKind} {a b:Int} (h:a=b):Ending.returned (.int k a)=.returned (.int k b):=by rw [h]

theorem bvals_append (a b:List UInt8):bvals (a ++ b)=bvals a ++ bvals b:=by simp [bvals]
theorem strOfNums_bytes (xs:List UInt8):strOfNums (xs.map fun b => (b.toNat:Int))=⟨xs.toArray⟩:=by
 have h:xs.map ((fun n:Int => UInt8.ofNat n.toNat) ∘ fun b:UInt8 => (b.toNat:Int))=xs.map id:=List.map_congr_left fun b _ => by simp
 simp only [strOfNums,List.map_map]
 rw [h,List.map_id]

theorem run_convert_owned {P:Program} {w:World} (src e dst:TypeId) (hs:P.underlying src=some (.slice e)) (he:P.underlying e=some (.int .u8)) (hd:P.underlying dst=some .string)
  {base n:Nat} {v:Value} {xs:List UInt8} (h:w.ownsRow base e 1 v n (bvals xs)) :
  (convert src dst v).run P w=.ok (.string ⟨xs.toArray⟩) w:=by
 rcases h with ⟨hl,⟨rfl,rfl⟩ | ⟨g,cap,cur,rfl,hb,hg,hn,hc,hsz,htk⟩⟩
 ·have hx:xs=[]:=by simpa [bvals] using hl
  subst hx
  rw [run_convert_bytes_nil w src e hs he 0 0 dst hd]
  rfl
 ·have hlen:xs.length=n:=by simpa [bvals] using hl
  rw [← strOfNums_bytes]
  refine run_convert_bytes_arg w src e hs he g 0 n cap (xs.map fun b => (b.toNat:Int)) (by simpa using hlen) (fun i hi => ?_) dst hd
  rw [Nat.zero_add,cell_of_row w g i cur e (0,0) hg]
  have h1:cur.toList[i]?=(bvals xs)[i]?:=by
   rw [← htk,List.getElem?_take,if_pos (by omega)]
  have h2:(bvals xs)[i]?=some (.int .u8 ((xs.map fun b => (b.toNat:Int)).getD i 0)):=by
   have:i < xs.length:=by omega
   simp [bvals,List.getD,List.getElem?_eq_getElem this]
  rw [← h2,← h1]
  simp

theorem cells_one (w:World) (u:Value) (e:TypeId):∀ j x,[u][j]?=some x→(w.alloc (.cells #[u] e)).cell? ((⟨w.heap.size,0,none⟩ : Addr).add j)=some x:=by
 intro j x hj
 match j,hj with
 | 0,hj =>
  simp at hj
  subst hj
  simp [Addr.add]

theorem wpList_append_one {P:Program} {w:World} {ops:Array Oper} {rest:List Oper} {o:Oper} {a:Act} {Q:Exit→Act→World→Prop} (u:Value)
  (hgd:o.guard=none) (s x:Operand) (t:TypeId) (ho:o.op=.call { callee:=.builtin .append,args:=#[s,x],argTypes:=#[t,t] })
  (base:Nat) (e:TypeId) (i:TypeInfo) (z:Value) (bytes:Nat) (ht:P.underlying t=some (.slice e)) (hi:P.info? e=some i) (hz:i.zero=some z)
  (hsize:i.size=1) (hby:i.bytes=bytes) (hzs:z.cells.size=1)
  (v:Value) (n:Nat) (xs:List Value) (hs:a.eval s=v) (hown:w.ownsRow base e 1 v n xs)
  (hx:a.eval x=.slice (some ⟨w.heap.size,0,none⟩) 1 1) (h1:u.oneCell'=true)
  (hbytes:n < 4294967296) (hb:bytes≤4096) (hbase:base≤w.heap.size)
  (h:∀ v' w',w'.ownsRow base e 1 v' (n+1) (xs ++ [u])→Below base w w'→wpList P ops Q rest (a.put o.dst v') w') :
  wpList P ops Q (o :: rest) a (w.alloc (.cells #[u] e)):=by
 refine wpList_append_own _ hgd s x t ho base e i z 1 bytes ht hi hz hsize hby hzs (by decide) v n xs hs (hown.alloc _) ⟨w.heap.size,0,none⟩ 1 1 [u] hx rfl (cells_one w u e) (by simpa using h1)
  (by unfold maxLen; omega) (Nat.le_trans (Nat.mul_le_mul (show n+1≤4294967296 by omega) hb) (by decide)) (by simp; omega) ?_
 intro v' w' hown' hgrow _
 refine h v' w' hown' (((Below.refl base w).alloc hbase _).grown hgrow (by simp; omega) (fun k hk => (hown.lt k hk).1))

theorem wpList_append_u8 {P:Program} {w:World} {ops:Array Oper} {rest:List Oper} {o:Oper} {a:Act} {Q:Exit→Act→World→Prop} (Y:Int) (y:Nat) (hY:Y=(y:Int)) (hy:y < 256)
  (hgd:o.guard=none) (s x:Operand) (t:TypeId) (ho:o.op=.call { callee:=.builtin .append,args:=#[s,x],argTypes:=#[t,t] })
  (base:Nat) (e:TypeId) (i:TypeInfo) (ht:P.underlying t=some (.slice e)) (hi:P.info? e=some i) (hz:i.zero=some (.int .u8 0))
  (hsize:i.size=1) (hby:i.bytes=1)
  (v:Value) (xs:List UInt8) (hs:a.eval s=v) (hown:w.ownsRow base e 1 v xs.length (bvals xs))
  (hx:a.eval x=.slice (some ⟨w.heap.size,0,none⟩) 1 1) (hlen:xs.length < 4294967296) (hbase:base≤w.heap.size)
  (h:∀ v' w',w'.ownsRow base e 1 v' (xs ++ [u8of y]).length (bvals (xs ++ [u8of y]))→Below base w w'→wpList P ops Q rest (a.put o.dst v') w') :
  wpList P ops Q (o :: rest) a (w.alloc (.cells #[.int .u8 Y] e)):=by
 subst hY
 have e1:bvals (xs ++ [u8of y])=bvals xs ++ [.int .u8 (y:Int)]:=by
  rw [bvals_append]
  have:(u8of y).toNat=y:=u8of_toNat hy
  simp [bvals,this]
 refine wpList_append_one (.int .u8 (y:Int)) hgd s x t ho base e i (.int .u8 0) 1 ht hi hz hsize hby rfl v xs.length (bvals xs) hs hown hx rfl hlen (by decide) hbase ?_
 intro v' w' hown' hb
 refine h v' w' ?_ hb
 rw [e1]
 simpa using hown'

theorem or128 (x:Nat):bits .or .u8 ((x:Int) % 256) 128=((x % 128+128:Nat):Int):=by
 have h1:(x:Int) % 256=((x % 256:Nat):Int):=by omega
 rw [h1,show (128:Int)=((128:Nat):Int) from rfl,u8_or_nat _ _ (by omega) (by omega)]
 congr 1
 rw [Nat.or_comm]
 have e:x % 256=128 * (x / 128 % 2)+x % 128:=by omega
 have h2:x / 128 % 2=0∨x / 128 % 2=1:=by omega
 have h3:x % 128 < 2 ^ 7:=by omega
 have h4:128+x % 128=128 ||| x % 128:=Nat.two_pow_add_eq_or_of_lt (i:=7) h3 1
 rcases h2 with h | h
 ·rw [e,h,Nat.mul_zero,Nat.zero_add,← h4]
  omega
 ·rw [e,h,Nat.mul_one,h4,← Nat.or_assoc,Nat.or_self,← h4]
  omega

theorem andNot128 (b:Nat) (h:b < 256):bits .andNot .u8 (b:Int) 128=((b % 128:Nat):Int):=by
 rw [show (128:Int)=((128:Nat):Int) from rfl,u8_andNot_nat _ _ h (by omega)]
 congr 1
 exact Nat.and_two_pow_sub_one_eq_mod b 7

theorem and128 (b:Nat) (h:b < 256):bits .and .u8 (b:Int) 128=((b / 128 % 2 * 128:Nat):Int):=by
 rw [show (128:Int)=((128:Nat):Int) from rfl,u8_and_nat _ _ h (by omega)]
 congr 1
 exact nat_bit 7 b

theorem and128_yes {b:Nat} (h:b < 256) (h':¬ b < 128):(bits .and .u8 (b:Int) 128 != 0)=true:=by
 rw [and128 b h,show b / 128 % 2=1 by omega]; rfl

theorem and128_no {b:Nat} (h:b < 256) (h':b < 128):(bits .and .u8 (b:Int) 128 != 0)=false:=by
 rw [and128 b h,show b / 128 % 2=0 by omega]; rfl

theorem pow7 (i:Nat):2 ^ (7 * i)=128 ^ i:=by rw [Nat.pow_mul]

theorem pow_split (i:Nat) (h:i≤8):∃ c,18446744073709551616=c * (128 ^ i * 128):=by
 have hi8:i=0∨i=1∨i=2∨i=3∨i=4∨i=5∨i=6∨i=7∨i=8:=by omega
 rcases hi8 with rfl | rfl | rfl | rfl | rfl | rfl | rfl | rfl | rfl
 ·exact⟨2 ^ 57,by decide⟩
 ·exact⟨2 ^ 50,by decide⟩
 ·exact⟨2 ^ 43,by decide⟩
 ·exact⟨2 ^ 36,by decide⟩
 ·exact⟨2 ^ 29,by decide⟩
 ·exact⟨2 ^ 22,by decide⟩
 ·exact⟨2 ^ 15,by decide⟩
 ·exact⟨2 ^ 8,by decide⟩
 ·exact⟨2,by decide⟩

theorem sum_lt (acc x i:Nat) (ha:acc < 128 ^ i) (hx:x < 128) (hi:i≤9) (h9:i=9→x≤1):acc+x * 128 ^ i < 18446744073709551616:=by
 by_cases h:i=9
 ·subst h
  have:=h9 rfl
  have h2:x * 128 ^ 9≤1 * 128 ^ 9:=Nat.mul_le_mul_right _ this
  have h3:1 * 128 ^ 9=9223372036854775808:=by decide
  have h4:128 ^ 9=9223372036854775808:=by decide
  omega
 ·obtain⟨c,hc⟩:=pow_split i (by omega)
  rw [hc]
  have hc0:0 < c:=by
   rcases Nat.eq_zero_or_pos c with h0 | h0
   ·subst h0; simp at hc
   ·exact h0
  have h1:(x+1) * 128 ^ i≤128 ^ i * 128:=by rw [Nat.mul_comm (128 ^ i) 128]; exact Nat.mul_le_mul_right _ (by omega)
  have h2:128 ^ i * 128≤c * (128 ^ i * 128):=Nat.le_mul_of_pos_left _ hc0
  rw [Nat.add_mul] at h1
  omega

theorem orShift (acc x i sh:Nat) (hs:sh=7 * i) (ha:acc < 128 ^ i) (hx:x < 128) (hi:i≤9) (h9:i=9→x≤1) :
  bits .or .u64 (acc:Int) (IntKind.u64.wrap (IntKind.u64.wrap (x:Int) * 2 ^ min sh 64))=((acc+x * 128 ^ i:Nat):Int):=by
 have hlt:=sum_lt acc x i ha hx hi h9
 subst hs
 have e0:min (7 * i) 64=7 * i:=by omega
 have e1:IntKind.u64.wrap (x:Int)=(x:Int):=by rw [IntKind.wrap_u64]; omega
 have e2:(2:Int) ^ (7 * i)=((128 ^ i:Nat):Int):=by rw [← pow7]; exact (Int.natCast_pow 2 (7 * i)).symm
 rw [e0,e1,e2,← Int.natCast_mul]
 have e3:IntKind.u64.wrap ((x * 128 ^ i:Nat):Int)=((x * 128 ^ i:Nat):Int):=by rw [IntKind.wrap_u64]; omega
 rw [e3,u64_or_nat _ _ (by omega) (by omega),Nat.or_comm,nat_join (7 * i) _ _ (by rw [pow7]; exact Nat.mul_mod_left _ _) (by rw [pow7]; exact ha),Nat.add_comm]

theorem orShift' (acc x i sh:Nat) (hs:sh=7 * i) (ha:acc < 128 ^ i) (hx:x < 128) (hi:i≤9) (h9:i=9→x≤1) :
  bits .or .u64 (acc:Int) (IntKind.u64.wrap (IntKind.u64.wrap (x:Int) * 2 ^ sh))=((acc+x * 128 ^ i:Nat):Int):=by
 have:=orShift acc x i sh hs ha hx hi h9
 rwa [show min sh 64=sh by omega] at this

theorem or0 (x:Nat) (hx:x < 128):bits .or .u64 0 (x:Int)=(x:Int):=by
 rw [show (0:Int)=((0:Nat):Int) from rfl,u64_or_nat _ _ (by omega) (by omega),Nat.zero_or]

theorem bytes_at (l:List UInt8) (p:Nat) (h:p < (⟨l.toArray⟩ : ByteArray).size):l[p]?=some ((⟨l.toArray⟩ : ByteArray)[p]'h):=by
 have h':p < l.length:=by
  have:(⟨l.toArray⟩ : ByteArray).size=l.length:=by show l.toArray.size=_; simp
  omega
 rw [List.getElem?_eq_getElem h']
 rfl

theorem size_bytes (l:List UInt8):(⟨l.toArray⟩ : ByteArray).size=l.length:=by show l.toArray.size=_; simp

theorem run_slice_bytes {P:Program} (w:World) (t:TypeId) (l:List UInt8) (i j:Nat) (I J:Int) (hI:I=(i:Int)) (hJ:J=(j:Int)) (h:P.underlying t=some .string)
  (h1:i≤j) (h2:j≤l.length) :
  (Instr.slice t (.string ⟨l.toArray⟩) (some (.int .i64 I)) (some (.int .i64 J)) none).run P w=.ok (.string ⟨((l.drop i).take (j - i)).toArray⟩) w:=by
 subst hI
 subst hJ
 rw [run_slice_string w t _ .i64 .i64 i j h (by omega) (by omega) (by rw [size_bytes]; omega),ByteArray.extract_mk]
 simp

theorem run_slice_bytes_to {P:Program} (w:World) (t:TypeId) (l:List UInt8) (j:Nat) (J:Int) (hJ:J=(j:Int)) (h:P.underlying t=some .string) (h2:j≤l.length) :
  (Instr.slice t (.string ⟨l.toArray⟩) none (some (.int .i64 J)) none).run P w=.ok (.string ⟨(l.take j).toArray⟩) w:=by
 subst hJ
 rw [run_slice_string_to_if w t _ .i64 j h,if_pos (by rw [size_bytes]; omega),ByteArray.extract_mk]
 simp

theorem run_slice_bytes_from {P:Program} (w:World) (t:TypeId) (l:List UInt8) (i:Nat) (I:Int) (hI:I=(i:Int)) (h:P.underlying t=some .string) (h2:i≤l.length) :
  (Instr.slice t (.string ⟨l.toArray⟩) (some (.int .i64 I)) none none).run P w=.ok (.string ⟨(l.drop i).toArray⟩) w:=by
 subst hI
 rw [run_slice_string_from_if w t _ .i64 i h,if_pos (by rw [size_bytes]; omega),ByteArray.extract_mk,size_bytes]
 simp only [Int.toNat_natCast]
 rw [List.take_of_length_le (by simp)]

theorem below3 {w a b c:World} (h1:Below w.heap.size w a) (h2:Below a.heap.size a b) (h3:Below b.heap.size b c):Below w.heap.size w c :=
 h1.trans ((h2.mono h1.size).trans (h3.mono (Nat.le_trans h1.size h2.size)))

theorem below2' {w a b:World} (h1:Below w.heap.size w a) (h2:Below a.heap.size a b):Below w.heap.size w b:=h1.trans (h2.mono h1.size)

theorem rgB {P:Program} {f:FuncId} {args:Array Value} {v:Value} (h:∀ w,Calls P f args w fun e w' => e=.returned v∧Below w.heap.size w w') (w:World) (d:Nat) (os:Array Obj) :
  Calls P f args (Sort.grow (redrawn w d) os) fun e w'' => e=.returned v∧∃ p:Regrown,w''=Sort.grow (redrawn w p.d) p.os:=Calls.regrown_of (h _)

theorem rgS {P:Program} {f:FuncId} {args:Array Value} {v:Value} (h:∀ w,Calls P f args w fun e w' => e=.returned v∧w=w') (w:World) (d:Nat) (os:Array Obj) :
  Calls P f args (Sort.grow (redrawn w d) os) fun e w'' => e=.returned v∧∃ p:Regrown,w''=Sort.grow (redrawn w p.d) p.os :=
 Calls.regrown_of ((h _).mono fun _ _ ⟨he,hw⟩ => ⟨he,hw ▸ Below.refl _ _⟩)

def IsRow (k:IntKind) (w:World) (a:Option Addr) (len cap:Nat) (zs:List Int):Prop :=
 (a=none∧len=0∧cap=0∧zs=[]) ∨
 ∃ x,a=some x∧len≤cap∧cap≤maxLen∧zs.length=cap∧(∀ i,i < zs.length→w.cell? (x.add i)=some (.int k (zs.getD i 0)))∧∀ n ∈ zs,(Lit.int k n).wf=true

def IsStrs (w:World) (a:Option Addr) (len cap:Nat) (ss:List ByteArray):Prop :=
 (a=none∧len=0∧cap=0∧ss=[]) ∨
 ∃ x,a=some x∧len≤cap∧cap≤maxLen∧ss.length=cap∧(∀ i,i < ss.length→w.cell? (x.add i)=some (.string (ss.getD i ByteArray.empty)))∧∀ s ∈ ss,s.size≤maxLen

theorem run_convert_new {P:Program} (w:World) (src e dst:TypeId) (hs:P.underlying src=some (.slice e)) (he:P.underlying e=some (.int .u8)) (hd:P.underlying dst=some .string)
  (cs:Array Value) (xs:List UInt8) (h:cs=(bvals xs).toArray) (n:Nat) (hn:n=xs.length) (hm:n≤maxLen) :
  (convert src dst (.slice (some ⟨w.heap.size,0,none⟩) n n)).run P (w.alloc (.cells cs e))=.ok (.string ⟨xs.toArray⟩) (w.alloc (.cells cs e)):=by
 subst h
 subst hn
 refine run_convert_owned src e dst hs he hd (base:=0) (n:=xs.length) (xs:=xs) ⟨by simp [bvals],.inr ⟨w.heap.size,xs.length,(bvals xs).toArray,rfl,Nat.zero_le _,heap_alloc_new w _,Nat.le_refl _,hm,by simp [bvals],?_⟩⟩
 simp only [Nat.mul_one]
 exact List.take_of_length_le (by simp [bvals])

end Go.Proofs.YtekkofldhhdpgaaGreat

end

section

namespace Go.Proofs.YtekkofldhhdpgaaGreat
open Go.RowKit

theorem Tryz.info5:(Tryz.prog.info? 5).map (fun i => (i.zero,i.size,i.bytes))=some (some (.int .u8 0),1,1):=by kernel_rfl

theorem put_any (n:Nat) (hn:n < 18446744073709551616) (w:World) :
  Calls Tryz.prog 133 #[.int .u64 n] w fun e w' => e=.returned (.string ⟨(vput n).toArray⟩)∧Below w.heap.size w w':=by
 obtain⟨i0,hi,hz0,hz1,hz2⟩:=info_parts Tryz.info5
 go_enter Tryz.func133,Tryz.ntmps133
 go_wp2
 go_loopw [0,3] (fun i v wr => ∃ (m:Nat) (xs:List UInt8),m < 18446744073709551616∧xs ++ vput m=vput n∧i=.int .u64 m∧wr.ownsRow w.heap.size 5 1 v xs.length (bvals xs)∧Below w.heap.size w wr)
  (fun i _ _ => (intOf i).toNat)
 case atStart => exact⟨n,[],hn,rfl,rfl,World.ownsRow_nil _ _ _ _,Below.refl _ _⟩
 case round =>
  obtain⟨m,xs,hm,hx,rfl,hown,hnx⟩:=hrel
  have hlen:xs.length≤10:=by
   have h1:=congrArg List.length hx
   have h2:=vput_len_le n
   simp at h1; omega
  have hsz:=hnx.size
  by_cases hlt:m < 128
  ·have hv:=vput_lt hlt
   go_wp2_with (at_builtin; go_must (refine wpList_append_u8 _ m rfl (by omega) rfl _ _ 150 rfl w.heap.size 5 i0 Tryz.underlying150 hi hz0 hz1 hz2 _ xs rfl (by exact hown) rfl (by omega) hsz ?_))
   intro v' w1 hown' hb
   have hc:=run_convert_owned (P:=Tryz.prog) 150 5 9 Tryz.underlying150 Tryz.underlying5 Tryz.underlying9 hown'
   go_wp2
   go_ret
   exact⟨by rw [← hx,hv]; rfl,hnx.trans hb⟩
  ·have hv:=vput_ge (by omega) hm
   go_wp2_with (at_builtin; go_must (refine wpList_append_u8 _ (m % 128+128) (or128 m) (by omega) rfl _ _ 150 rfl w.heap.size 5 i0 Tryz.underlying150 hi hz0 hz1 hz2 _ xs rfl (by exact hown) rfl (by omega) hsz ?_))
   intro v' w1 hown' hb
   go_wp2
   go_roundw
   case rel => exact⟨m / 128,xs ++ [u8of (m % 128+128)],by omega,by rw [← hx,hv]; simp,by go_num,by simpa using hown',hnx.trans hb⟩
   case measure => simp [intOf]; omega

theorem text_any (l:List UInt8) (hl:l.length≤4294967296) (w:World) :
  Calls Tryz.prog 187 #[.string ⟨l.toArray⟩] w fun e w' => e=.returned (.string ⟨(vput l.length ++ l).toArray⟩)∧Below w.heap.size w w':=by
 go_enter Tryz.func187,Tryz.ntmps187
 have hlen:=vput_len_le l.length
 go_wp2_with (go_at_call 133; go_must (refine (put_any l.length (by omega) _).mono ?_); rintro e w' ⟨rfl,hb⟩)
 go_ret
 exact⟨rfl,hb⟩

end Go.Proofs.YtekkofldhhdpgaaGreat

end

section

namespace Go.Proofs.YtekkofldhhdpgaaGreat
open Go.RowKit

def triple (r:Nat × Nat × Nat):Value:=.tuple #[.int .u64 r.1,.int .i64 r.2.1,.int .i64 r.2.2]

def GetJ (l : List UInt8) (q : Nat) (w : World) (a' : Act) (w' : World) : Prop := w' = w ∧ ∃ (i acc p sh : Nat) (u10 u11 u12 u13 u14 u15 u16 u17 u18 u19 u20 u21 u22 u23 u24 u25 u26 u27 u28 u29 u30 u31 u32 u33 u34 u35 u36 u37 u38 u39 u40 u41 u42 u43 u44 u45 u46 u47 u48 u49 u50 u51 u52 u53 u54 u55 u56 : Value), i ≤ 9 ∧ 1 ≤ i ∧ p ≤ l.length ∧ Hid (GetAt l q i acc p sh) ∧
      a' = { tmps := #[.string ⟨l.toArray⟩, .int .i64 q, undef, undef, .int .u64 0, .int .i64 0, .int .i64 0, .int .u64 acc, .int .u64 sh, .int .i64 p, u10, u11, u12, u13, u14, u15, u16, u17, u18, u19, u20, u21, u22, u23, u24, u25, u26, u27, u28, u29, u30, u31, u32, u33, u34, u35, u36, u37, u38, u39, u40, u41, u42, u43, u44, u45, u46, u47, u48, u49, u50, u51, u52, u53, u54, u55, u56], defers := [] }

def GetM (l:List UInt8) (a':Act) (_:World):Nat:=l.length - (intOf (a'.tmps.getD 9 undef)).toNat

set_option maxRecDepth 1000000 in
theorem get_in (l:List UInt8) (hl:l.length≤4294967296) (q:Nat) (hq:q≤l.length) (w:World) :
  Calls Tryz.prog 132 #[.string ⟨l.toArray⟩,.int .i64 q] w fun e w' => e=.returned (triple (vget l q))∧w=w':=by
 go_enter Tryz.func132,Tryz.ntmps132
 go_wp2
 refine wp_scope_jumps 0 (GetJ l q w) (GetM l) rfl ?_ ?_
 ·have Hall:=hZq (getAt_start l q)
  by_cases hend:q=l.length
  ·have t1:((q:Int) == (l.length:Int))=true:=by rw [hend]; simp
   have HR:=hZq (getAt_end Hall.out hq hend)
   clear hend
   go_wp2
   go_step3
   go_wp2
   simp only [Exit.jump]
   go_ret3
   exact⟨by rw [HR.out]; rfl,rfl⟩
  ·have t1:((q:Int) == (l.length:Int))=false:=by simp; omega
   have hlt:q < l.length:=by omega
   have hlt':q < (⟨l.toArray⟩ : ByteArray).size:=by show _ < l.toArray.size; simpa using hlt
   obtain⟨b,hb⟩ : ∃ b:UInt8,(⟨l.toArray⟩ : ByteArray)[q]'hlt'=b:=⟨_,rfl⟩
   have HB:Hid (l[q]?=some b):=by rw [← hb]; exact bytes_at l q hlt'
   have h256:=b.toNat_lt
   have t5:=andNot128 b.toNat (by omega)
   have t6:=or0 (b.toNat % 128) (by omega)
   obtain⟨x,hx⟩ : ∃ x,x=b.toNat % 128:=⟨_,rfl⟩
   have hxl:x < 128:=by omega
   rw [← hx] at t5 t6
   have HX:=hZq hx
   clear hx hend
   by_cases h0:b.toNat < 128
   ·have t4:=and128_no (by omega) h0
    have HR:=hZq (getAt_last Hall.out hq HB.out (by omega) h0 (by omega))
    have Hf:Hid (0+b.toNat % 128 * 128 ^ 0=x):=by show _=_; rw [← HX.out]; simp
    clear h0
    by_cases hz:b.toNat=0
    ·have t7:((b.toNat:Int) == 0)=true:=by simp; omega
     clear hz
     go_wp2
     go_step3
     go_wp2
     simp only [Exit.jump]
     go_ret3
     exact⟨by rw [HR.out,Hf.out]; rfl,rfl⟩
    ·have t7:((b.toNat:Int) == 0)=false:=by simp; omega
     clear hz
     go_wp2
     go_step3
     go_wp2
     simp only [Exit.jump]
     go_ret3
     exact⟨by rw [HR.out,Hf.out]; rfl,rfl⟩
   ·have t4:=and128_yes (by omega) h0
    have HN:=hZq (getAt_next Hall.out HB.out (by omega) h0)
    have Hf:Hid (0+b.toNat % 128 * 128 ^ 0=x):=by show _=_; rw [← HX.out]; simp
    clear h0
    go_wp2
    go_step3
    go_wp2
    go_step3
    exact⟨rfl,rfl,1,x,q+1,7,_,_,_,_,_,_,_,_,_,_,_,_,_,_,_,_,_,_,_,_,_,_,_,_,_,_,_,_,_,_,_,_,_,_,_,_,_,_,_,_,_,_,_,_,_,_,_,by omega,by omega,by omega,by rw [← Hf.out]; exact HN.out,rfl⟩
 ·rintro a' w' ⟨rfl,i,acc,p,sh,u10,u11,u12,u13,u14,u15,u16,u17,u18,u19,u20,u21,u22,u23,u24,u25,u26,u27,u28,u29,u30,u31,u32,u33,u34,u35,u36,u37,u38,u39,u40,u41,u42,u43,u44,u45,u46,u47,u48,u49,u50,u51,u52,u53,u54,u55,u56,hi9,hi1,hpl,Hall,rfl⟩
  by_cases hend:p=l.length
  ·have t1:((p:Int) == (l.length:Int))=true:=by rw [hend]; simp
   have R:=getAt_end Hall.out hq hend
   have HR:=hZq R
   clear hend R
   go_wp2
   simp only [Exit.jump]
   go_ret3
   exact⟨by rw [HR.out]; rfl,rfl⟩
  ·have t1:((p:Int) == (l.length:Int))=false:=by simp; omega
   have hlt:p < l.length:=by omega
   have hlt':p < (⟨l.toArray⟩ : ByteArray).size:=by show _ < l.toArray.size; simpa using hlt
   obtain⟨b,hb⟩ : ∃ b:UInt8,(⟨l.toArray⟩ : ByteArray)[p]'hlt'=b:=⟨_,rfl⟩
   have HB:Hid (l[p]?=some b):=by rw [← hb]; exact bytes_at l p hlt'
   have h256:=b.toNat_lt
   clear hend
   by_cases h91:i=9∧1 < b.toNat
   ·have t2:((sh:Int) == 63)=true:=by have:=Hall.out.2.2.1; simp; omega
    have t3:(1:Int) < b.toNat:=by omega
    have HR:=hZq (getAt_form Hall.out hq HB.out (.inl h91))
    clear h91
    go_wp2
    simp only [Exit.jump]
    go_ret3
    exact⟨by rw [HR.out]; rfl,rfl⟩
   ·have H91:=hZq h91
    clear h91
    have t5:=andNot128 b.toNat (by omega)
    have t6:=orShift' acc (b.toNat % 128) i sh Hall.out.2.2.1 Hall.out.1 (by omega) hi9 (fun h => by have:=H91.out; omega)
    have hs:=sum_lt acc (b.toNat % 128) i Hall.out.1 (by omega) hi9 (fun h => by have:=H91.out; omega)
    obtain⟨acc',Hacc'⟩ : ∃ acc',Hid (acc'=acc+b.toNat % 128 * 128 ^ i):=⟨_,rfl⟩
    rw [← Hacc'.out] at t6 hs
    obtain⟨x,hx⟩ : ∃ x,x=b.toNat % 128:=⟨_,rfl⟩
    rw [← hx] at t5 t6
    have HX:=hZq hx
    clear hx
    have hsh:sh≤63:=by have:=Hall.out.2.2.1; omega
    by_cases h0:b.toNat < 128
    ·have t4:=and128_no (by omega) h0
     by_cases hz:b.toNat=0
     ·have t7:((b.toNat:Int) == 0)=true:=by simp; omega
      have t8:((p:Int)+1 != (q:Int)+1)=true:=by have:=Hall.out.2.1; simp; omega
      have HR:=hZq (getAt_form Hall.out hq HB.out (.inr ⟨h0,hz,by omega⟩))
      clear hz h0
      by_cases h9:i=9
      ·have t2:((sh:Int) == 63)=true:=by have:=Hall.out.2.2.1; simp; omega
       have t3:¬ (1:Int) < b.toNat:=by have:=H91.out; omega
       clear h9
       go_wp2
       simp only [Exit.jump]
       go_ret3
       exact⟨by rw [HR.out]; rfl,rfl⟩
      ·have t2:((sh:Int) == 63)=false:=by have:=Hall.out.2.2.1; simp; omega
       clear h9
       go_wp2
       simp only [Exit.jump]
       go_ret3
       exact⟨by rw [HR.out]; rfl,rfl⟩
     ·have t7:((b.toNat:Int) == 0)=false:=by simp; omega
      have HR:=hZq (getAt_last Hall.out hq HB.out H91.out h0 (by omega))
      clear hz h0
      by_cases h9:i=9
      ·have t2:((sh:Int) == 63)=true:=by have:=Hall.out.2.2.1; simp; omega
       have t3:¬ (1:Int) < b.toNat:=by have:=H91.out; omega
       clear h9
       go_wp2
       simp only [Exit.jump]
       go_ret3
       exact⟨by rw [HR.out,← Hacc'.out]; rfl,rfl⟩
      ·have t2:((sh:Int) == 63)=false:=by have:=Hall.out.2.2.1; simp; omega
       clear h9
       go_wp2
       simp only [Exit.jump]
       go_ret3
       exact⟨by rw [HR.out,← Hacc'.out]; rfl,rfl⟩
    ·have t4:=and128_yes (by omega) h0
     have hi8:i≤8:=by have:=H91.out; omega
     have t2:((sh:Int) == 63)=false:=by have:=Hall.out.2.2.1; simp; omega
     have HN:=hZq (getAt_next Hall.out HB.out H91.out h0)
     clear h0
     go_wp2
     go_step3
     refine ⟨rfl,⟨rfl,i+1,acc',p+1,sh+7,_,_,_,_,_,_,_,_,_,_,_,_,_,_,_,_,_,_,_,_,_,_,_,_,_,_,_,_,_,_,_,_,_,_,_,_,_,_,_,_,_,_,_,_,_,_,_,by omega,by omega,by omega,by rw [Hacc'.out]; exact HN.out,rfl⟩,?_⟩
     simp [GetM,intOf]
     omega

theorem vget_out {l:List UInt8} {p:Int} (h:p < 0∨(l.length:Int) < p):vget l p=(0,0,1):=by
 unfold vget
 rw [if_pos h]

set_option maxRecDepth 1000000 in
theorem get_any (l:List UInt8) (hl:l.length≤4294967296) (p:Int) (w:World) :
  Calls Tryz.prog 132 #[.string ⟨l.toArray⟩,.int .i64 p] w fun e w' => e=.returned (triple (vget l p))∧w=w':=by
 by_cases h:p < 0∨(l.length:Int) < p
 ·rw [vget_out h]
  by_cases h1:p < 0
  ·clear h
   go_enter Tryz.func132,Tryz.ntmps132
   go_wp2
   go_step3
   go_wp2
   rw [Exit.noGoto_ret]
   go_ret3
   exact⟨rfl,rfl⟩
  ·have h2:(l.length:Int) < p:=by omega
   clear h
   go_enter Tryz.func132,Tryz.ntmps132
   go_wp2
   go_step3
   go_wp2
   rw [Exit.noGoto_ret]
   go_ret3
   exact⟨rfl,rfl⟩
 ·obtain⟨q,rfl⟩:=Int.eq_ofNat_of_zero_le (show 0≤p by omega)
  exact get_in l hl q (by omega) w

end Go.Proofs.YtekkofldhhdpgaaGreat

end

section

namespace Go.Proofs.YtekkofldhhdpgaaGreat
open Go.RowKit

end Go.Proofs.YtekkofldhhdpgaaGreat

end
