/-
 TEXTS OF THE PROOF, one behind the other: VarPure, Kit, VarPut, VarGet, VarRget, VarTake, IdPure, ValPure, DigPure, DigRow, Shelf, IdCmp, IdIs, IdFold, IdTake, Bytes.
-/
import Derived.WalkKit
import Derived.BigQuiet
import Derived.Lib.QuietBelow
import Derived.Test.YtmpigdokghngiaaGreatRows
import Derived.Deep.DeepMust
import Derived.Lib.Hide
import Derived.Lib.Bytealg
import Derived.Sort.Statements
import Derived.Shelf.SlSortCmp.Insertion
import Derived.Lib.SlicesCompact
import Derived.Laws.StructEq
import Derived.Laws.AppendOwnNone
import Derived.Laws.OwnMore
import Derived.Shelf.Strings.Builder1
import Derived.Shelf.Small.Bits
import Derived.Shelf.Small.Strs
import Derived.Shelf.Small.Wraps
import Derived.Shelf.Strings.BuilderF
import Derived.Shelf.Strings.BuilderK
import Derived.Shelf.Strings.BuilderRune
import Derived.Shelf.Slices.CompactS
import Derived.Shelf.SlicesE.Compact
import Derived.Shelf.SlSortCmp.SiftDown1
import Derived.Shelf.SlSortCmp.HeapSort1
import Derived.Shelf.SlSortCmp.Insertion1
import Derived.Shelf.SlSortCmp.Median1
import Derived.Shelf.SlSortCmp.Pivot1
import Derived.Shelf.SlSortCmp.ReverseRange1
import Derived.Shelf.SlSortCmp.PartialInsertion1
import Derived.Shelf.SlSortCmp.PartitionEqual1
import Derived.Shelf.SlSortCmp.Partition1
import Derived.Shelf.SlSortCmp.Pdq1
import Derived.Shelf.SlSortCmp.Whole1
import Derived.Shelf.SlSortCmp.NoneTotal
import Derived.Lib.OthersKept
import Derived.Lib.ConvBytes
import Derived.Below

set_option maxHeartbeats 12800000
set_option maxRecDepth 100000

namespace Go.Proofs.YtmpigdokghngiaaGreat
theorem hZq {p:Prop} (h:p):RowKit.Hid p:=h
end Go.Proofs.YtmpigdokghngiaaGreat

namespace Go.Proofs.YtmpigdokghngiaaGreat
section

def u8of (n:Nat):UInt8:=UInt8.ofNat n

def vputF:Nat→Nat→List UInt8
 | 0,n => [u8of n]
 | k+1,n => if n < 128 then [u8of n] else u8of (n % 128+128) :: vputF k (n / 128)

def vput (n:Nat):List UInt8:=vputF 9 n

theorem vputF_lt {k n:Nat} (h:n < 128):vputF k n=[u8of n]:=by
 cases k <;> simp [vputF,h]

theorem vputF_succ:∀ (k n:Nat),n < 128 ^ (k+1)→vputF (k+1) n=vputF k n
 | 0,n,h => by
  have h':n < 128:=by simpa using h
  rw [vputF_lt h',vputF_lt h']
 | k+1,n,h => by
  by_cases h1:n < 128
  ·rw [vputF_lt h1,vputF_lt h1]
  ·rw [vputF,if_neg h1,vputF_succ k (n / 128) (by rw [Nat.pow_succ] at h; omega)]
   conv => rhs; rw [vputF,if_neg h1]

theorem vput_lt {n:Nat} (h:n < 128):vput n=[u8of n]:=vputF_lt h

theorem vput_ge {n:Nat} (h:128≤n) (hn:n < 18446744073709551616):vput n=u8of (n % 128+128) :: vput (n / 128):=by
 unfold vput
 rw [vputF,if_neg (by omega),vputF_succ 8 (n / 128) (by simp; omega)]

theorem vputF_len_le:∀ (k n:Nat),(vputF k n).length≤k+1
 | 0,n => by simp [vputF]
 | k+1,n => by
  unfold vputF
  split
  ·simp
  ·have:=vputF_len_le k (n / 128)
   simp; omega

theorem vput_len_le (n:Nat):(vput n).length≤10:=vputF_len_le 9 n

theorem vputF_len_pos (k n:Nat):1≤(vputF k n).length:=by
 cases k with
 | zero => simp [vputF]
 | succ k => unfold vputF; split <;> simp

theorem vput_len_pos (n:Nat):1≤(vput n).length:=vputF_len_pos 9 n

def vgetF (i:Nat):List UInt8→Nat × Nat × Nat
 | [] => (0,0,2)
 | b :: r =>
  if i=9∧1 < b.toNat then (0,0,3)
  else if b.toNat < 128 then (if b.toNat=0∧0 < i then (0,0,3) else (b.toNat,1,0))
  else
   if (vgetF (i+1) r).2.2=0 then (b.toNat % 128+128 * (vgetF (i+1) r).1,(vgetF (i+1) r).2.1+1,0)
   else (0,0,(vgetF (i+1) r).2.2)

def vget (s:List UInt8) (at':Int):Nat × Nat × Nat :=
 if at' < 0∨(s.length:Int) < at' then (0,0,1)
 else
  if (vgetF 0 (s.drop at'.toNat)).2.2=0 then ((vgetF 0 (s.drop at'.toNat)).1,at'.toNat+(vgetF 0 (s.drop at'.toNat)).2.1,0)
  else (0,0,(vgetF 0 (s.drop at'.toNat)).2.2)

theorem vgetF_err (i:Nat):∀ l:List UInt8,(vgetF i l).2.2=0∨vgetF i l=(0,0,2)∨vgetF i l=(0,0,3):=by
 intro l
 induction l generalizing i with
 | nil => simp [vgetF]
 | cons b r ih =>
  unfold vgetF
  split
  ·simp
  ·split
   ·split <;> simp
   ·rcases ih (i+1) with h | h | h
    ·rw [if_pos h]; simp
    ·rw [h]; simp
    ·rw [h]; simp

theorem vgetF_used (i:Nat):∀ l:List UInt8,(vgetF i l).2.2=0→1≤(vgetF i l).2.1∧(vgetF i l).2.1≤l.length:=by
 intro l
 induction l generalizing i with
 | nil => simp [vgetF]
 | cons b r ih =>
  unfold vgetF
  split
  ·simp
  ·split
   ·split <;> simp
   ·by_cases h:(vgetF (i+1) r).2.2=0
    ·have:=ih (i+1) h
     rw [if_pos h]; simp; omega
    ·rw [if_neg h]; simp [h]

theorem vgetF_bound (i:Nat) (hi:i≤9):∀ l:List UInt8,(vgetF i l).1 * 128 ^ i < 18446744073709551616:=by
 intro l
 induction l generalizing i with
 | nil => simp [vgetF]
 | cons b r ih =>
  have hb:=b.toNat_lt
  unfold vgetF
  split
  ·simp
  ·rename_i h9
   split
   ·rename_i hlt
    split
    ·simp
    ·simp only
     by_cases hi9:i=9
     ·subst hi9
      have:b.toNat≤1:=by omega
      have:=Nat.mul_le_mul_right (128 ^ 9) this
      refine Nat.lt_of_le_of_lt this (by decide)
     ·have h8:i≤8:=by omega
      have h1:b.toNat≤127:=by omega
      calc b.toNat * 128 ^ i≤127 * 128 ^ 8:=Nat.mul_le_mul h1 (Nat.pow_le_pow_right (by decide) h8)
       _ < 18446744073709551616:=by decide
   ·rename_i hge
    by_cases hi9:i=9
    ·exact absurd ⟨hi9,by omega⟩ h9
    ·have ih':=ih (i+1) (by omega)
     split
     ·simp only
      have hb2:b.toNat % 128≤127:=by omega
      rw [Nat.pow_succ] at ih'
      obtain⟨c,hc⟩ : ∃ c,18446744073709551616=c * (128 ^ i * 128):=by
       have hi8:i=0∨i=1∨i=2∨i=3∨i=4∨i=5∨i=6∨i=7∨i=8:=by omega
       rcases hi8 with rfl | rfl | rfl | rfl | rfl | rfl | rfl | rfl | rfl
       ·exact⟨2 ^ 57,by decide⟩
       ·exact⟨2 ^ 50,by decide⟩
       ·exact⟨2 ^ 43,by decide⟩
       ·exact⟨2 ^ 36,by decide⟩
       ·exact⟨2 ^ 29,by decide⟩
       ·exact⟨2 ^ 22,by decide⟩
       ·exact⟨2 ^ 15,by decide⟩
       ·exact⟨2 ^ 8,by decide⟩
       ·exact⟨2,by decide⟩
      rw [hc] at ih' ⊢
      have hlt:=Nat.lt_of_mul_lt_mul_right ih'
      rw [Nat.mul_comm (128 ^ i) 128,← Nat.mul_assoc]
      exact Nat.mul_lt_mul_of_pos_right (by omega) (Nat.pow_pos (by decide))
     ·simp

theorem u8of_toNat {n:Nat} (h:n < 256):(u8of n).toNat=n:=by
 simp [u8of,UInt8.toNat_ofNat']; omega

theorem u8of_of_toNat (b:UInt8):u8of b.toNat=b:=by
 simp [u8of]

theorem vgetF_vputF:∀ (k n i:Nat) (r:List UInt8),i+k=9→n * 128 ^ i < 18446744073709551616→(0 < i→0 < n) →
  vgetF i (vputF k n ++ r)=(n,(vputF k n).length,0)
 | 0,n,i,r,hk,hn,hp => by
  have hi:i=9:=by omega
  subst hi
  have h1:n≤1:=by simp at hn; omega
  have ht:(u8of n).toNat=n:=u8of_toNat (by omega)
  simp only [vputF,List.cons_append,List.nil_append,vgetF,ht]
  rw [if_neg (by omega),if_pos (by omega),if_neg (by omega)]
  simp
 | k+1,n,i,r,hk,hn,hp => by
  by_cases h:n < 128
  ·have ht:(u8of n).toNat=n:=u8of_toNat (by omega)
   rw [vputF_lt h]
   simp only [List.cons_append,List.nil_append,vgetF,ht]
   rw [if_neg (by omega),if_pos (by omega),if_neg (by omega)]
   simp
  ·have ht:(u8of (n % 128+128)).toNat=n % 128+128:=u8of_toNat (by omega)
   have ih:=vgetF_vputF k (n / 128) (i+1) r (by omega) (by
    refine Nat.lt_of_le_of_lt ?_ hn
    rw [Nat.pow_succ,Nat.mul_comm (128 ^ i) 128,← Nat.mul_assoc]
    exact Nat.mul_le_mul_right _ (Nat.div_mul_le_self n 128)) (fun _ => by omega)
   rw [vputF,if_neg h]
   simp only [List.cons_append,vgetF,ht,ih]
   rw [if_neg (by omega),if_neg (by omega),if_pos trivial]
   simp
   omega

theorem vget_vput (n:Nat) (hn:n < 18446744073709551616) (a r:List UInt8) :
  vget (a ++ (vput n ++ r)) (a.length:Int)=(n,a.length+(vput n).length,0):=by
 unfold vget vput
 rw [if_neg (by simp; omega)]
 have e:List.drop ((a.length:Int)).toNat (a ++ (vputF 9 n ++ r))=vputF 9 n ++ r:=by simp
 rw [e,vgetF_vputF 9 n 0 r rfl (by simpa using hn) (by simp)]
 simp

theorem vputF_vgetF:∀ (l:List UInt8) (k i:Nat),i+k=9→(vgetF i l).2.2=0→vputF k (vgetF i l).1=l.take (vgetF i l).2.1∧(0 < i→0 < (vgetF i l).1)
 | [],k,i,hk,h => by simp [vgetF] at h
 | b :: r,k,i,hk,h => by
  have hb:=b.toNat_lt
  unfold vgetF at h ⊢
  by_cases h9:i=9∧1 < b.toNat
  ·rw [if_pos h9] at h; simp at h
  ·rw [if_neg h9] at h ⊢
   by_cases hlt:b.toNat < 128
   ·rw [if_pos hlt] at h ⊢
    by_cases h0:b.toNat=0∧0 < i
    ·rw [if_pos h0] at h; simp at h
    ·rw [if_neg h0]
     simp only
     rw [vputF_lt hlt,u8of_of_toNat]
     exact⟨by simp,fun _ => by omega⟩
   ·rw [if_neg hlt] at h ⊢
    by_cases he:(vgetF (i+1) r).2.2=0
    ·rw [if_pos he]
     cases k with
     | zero => exact absurd ⟨by omega,by omega⟩ h9
     | succ k =>
      have ih:=vputF_vgetF r k (i+1) (by omega) he
      have hp:=ih.2 (by omega)
      simp only
      have hge:¬ b.toNat % 128+128 * (vgetF (i+1) r).1 < 128:=by omega
      rw [vputF,if_neg hge]
      have e1:(b.toNat % 128+128 * (vgetF (i+1) r).1) % 128+128=b.toNat:=by omega
      have e2:(b.toNat % 128+128 * (vgetF (i+1) r).1) / 128=(vgetF (i+1) r).1:=by omega
      rw [e1,e2,ih.1,u8of_of_toNat]
      exact⟨by simp,fun _ => by omega⟩
    ·rw [if_neg he] at h; exact absurd h he

def comb (i acc:Nat) (r:Nat × Nat × Nat):Nat × Nat × Nat:=if r.2.2=0 then (acc+128 ^ i * r.1,i+r.2.1,0) else (0,0,r.2.2)

def GetAt (l:List UInt8) (q i acc p sh:Nat):Prop:=acc < 128 ^ i∧p=q+i∧sh=7 * i∧comb i acc (vgetF i (l.drop p))=vgetF 0 (l.drop q)

theorem getAt_start (l:List UInt8) (q:Nat):GetAt l q 0 0 q 0:=by
 refine ⟨by simp,rfl,rfl,?_⟩
 unfold comb
 rcases vgetF_err 0 (l.drop q) with h | h | h
 ·rw [if_pos h]
  exact Prod.ext (by simp) (Prod.ext (by simp) h.symm)
 ·rw [h]; simp
 ·rw [h]; simp

theorem vget_in {l:List UInt8} {q:Nat} (hq:q≤l.length) {r:Nat × Nat × Nat} (h:vgetF 0 (l.drop q)=r) :
  vget l q=if r.2.2=0 then (r.1,q+r.2.1,0) else (0,0,r.2.2):=by
 unfold vget
 rw [if_neg (by omega)]
 simp only [Int.toNat_natCast,h]

theorem getAt_end {l:List UInt8} {q i acc p sh:Nat} (h:GetAt l q i acc p sh) (hq:q≤l.length) (hp:p=l.length):vget l q=(0,0,2):=by
 have e:vgetF 0 (l.drop q)=(0,0,2):=by
  rw [← h.2.2.2,hp]
  simp [vgetF,comb]
 rw [vget_in hq e]
 simp

theorem drop_at {l:List UInt8} {p:Nat} {b:UInt8} (hb:l[p]?=some b):l.drop p=b :: l.drop (p+1):=by
 obtain⟨h,hb'⟩:=List.getElem?_eq_some_iff.1 hb
 rw [List.drop_eq_getElem_cons h,hb']

theorem getAt_form {l:List UInt8} {q i acc p sh:Nat} {b:UInt8} (h:GetAt l q i acc p sh) (hq:q≤l.length) (hb:l[p]?=some b)
  (hc:(i=9∧1 < b.toNat)∨(b.toNat < 128∧b.toNat=0∧0 < i)):vget l q=(0,0,3):=by
 have e:vgetF 0 (l.drop q)=(0,0,3):=by
  rw [← h.2.2.2,drop_at hb]
  unfold vgetF
  rcases hc with h1 | ⟨h1,h2⟩
  ·rw [if_pos h1]; simp [comb]
  ·by_cases h3:i=9∧1 < b.toNat
   ·rw [if_pos h3]; simp [comb]
   ·rw [if_neg h3,if_pos h1,if_pos h2]; simp [comb]
 rw [vget_in hq e]
 simp

theorem getAt_last {l:List UInt8} {q i acc p sh:Nat} {b:UInt8} (h:GetAt l q i acc p sh) (hq:q≤l.length) (hb:l[p]?=some b)
  (h1:¬ (i=9∧1 < b.toNat)) (h2:b.toNat < 128) (h3:¬ (b.toNat=0∧0 < i)):vget l q=(acc+b.toNat % 128 * 128 ^ i,p+1,0):=by
 have e:vgetF 0 (l.drop q)=(acc+b.toNat % 128 * 128 ^ i,i+1,0):=by
  rw [← h.2.2.2,drop_at hb]
  unfold vgetF
  rw [if_neg h1,if_pos h2,if_neg h3]
  simp only [comb,if_pos]
  rw [Nat.mod_eq_of_lt h2,Nat.mul_comm]
 rw [vget_in hq e]
 have:=h.2.1
 simp
 omega

theorem getAt_next {l:List UInt8} {q i acc p sh:Nat} {b:UInt8} (h:GetAt l q i acc p sh) (hb:l[p]?=some b)
  (h1:¬ (i=9∧1 < b.toNat)) (h2:¬ b.toNat < 128):GetAt l q (i+1) (acc+b.toNat % 128 * 128 ^ i) (p+1) (sh+7):=by
 obtain⟨ha,hp,hs,hc⟩:=h
 refine ⟨?_,by omega,by omega,?_⟩
 ·have:b.toNat % 128 * 128 ^ i≤127 * 128 ^ i:=Nat.mul_le_mul_right _ (by omega)
  rw [Nat.pow_succ]
  omega
 ·rw [← hc,drop_at hb]
  conv => rhs; unfold vgetF
  rw [if_neg h1,if_neg h2]
  unfold comb
  by_cases he:(vgetF (i+1) (l.drop (p+1))).2.2=0
  ·simp only [if_pos he]
   simp only [if_true]
   refine Prod.ext ?_ (Prod.ext ?_ rfl)
   ·show acc+b.toNat % 128 * 128 ^ i+128 ^ (i+1) * _=acc+128 ^ i * (b.toNat % 128+128 * _)
    rw [Nat.pow_succ,Nat.mul_add,Nat.mul_comm (128 ^ i) (b.toNat % 128),Nat.mul_assoc,Nat.add_assoc]
   ·show i+1+_=i+(_+1)
    omega
  ·simp only [if_neg he]

def vtake (l:List UInt8) (p most:Int):List UInt8 × Nat × Nat :=
 if (vget l p).2.2 ≠ 0 then ([],0,(vget l p).2.2)
 else if most < 0∨most < ((vget l p).1:Int) then ([],0,3)
 else if l.length - (vget l p).2.1 < (vget l p).1 then ([],0,2)
 else ((l.drop (vget l p).2.1).take (vget l p).1,(vget l p).2.1+(vget l p).1,0)

theorem vget_facts {l:List UInt8} {p:Int} {n f er:Nat} (h:vget l p=(n,f,er)) :
  n < 18446744073709551616∧f≤l.length∧(er=0→0≤p∧p.toNat < f):=by
 unfold vget at h
 by_cases h1:p < 0∨(l.length:Int) < p
 ·rw [if_pos h1] at h
  simp only [Prod.mk.injEq] at h
  omega
 ·rw [if_neg h1] at h
  have hb:=vgetF_bound 0 (by omega) (l.drop p.toNat)
  by_cases h2:(vgetF 0 (l.drop p.toNat)).2.2=0
  ·rw [if_pos h2] at h
   have hu:=vgetF_used 0 (l.drop p.toNat) h2
   simp only [Prod.mk.injEq] at h
   simp only [List.length_drop] at hu
   simp only [Nat.pow_zero,Nat.mul_one] at hb
   omega
  ·rw [if_neg h2] at h
   simp only [Prod.mk.injEq] at h
   omega

def vflat (l:List Nat):List UInt8:=(l.map vput).flatten

theorem vtake_text (a t r:List UInt8) (most:Int) (ht:t.length < 18446744073709551616) (hm:(t.length:Int)≤most) :
  vtake (a ++ (vput t.length ++ t ++ r)) (a.length:Int) most=(t,a.length+(vput t.length).length+t.length,0):=by
 unfold vtake
 rw [List.append_assoc,vget_vput _ ht]
 simp only [ne_eq,not_true_eq_false,if_false]
 rw [if_neg (by omega),if_neg (by simp; omega)]
 have e:List.drop (a.length+(vput t.length).length) (a ++ (vput t.length ++ (t ++ r)))=t ++ r:=by
  rw [← List.append_assoc a]
  rw [List.drop_append_of_le_length (by simp)]
  rw [List.drop_of_length_le (by simp)]
  simp
 rw [e]
 simp

def tflat (l:List (List UInt8)):List UInt8:=(l.map fun t => vput t.length ++ t).flatten
end
section
open Go.RowKit

def bvals (l:List UInt8):List Value:=l.map fun b => .int .u8 b.toNat

theorem ret_int {k:IntKind} {a b:Int} (h:a=b):Ending.returned (.int k a)=.returned (.int k b):=by rw [h]

theorem bvals_append (a b:List UInt8):bvals (a ++ b)=bvals a ++ bvals b:=by simp [bvals]
theorem strOfNums_bytes (xs:List UInt8):strOfNums (xs.map fun b => (b.toNat:Int))=⟨xs.toArray⟩:=by
 have h:xs.map ((fun n:Int => UInt8.ofNat n.toNat) ∘ fun b:UInt8 => (b.toNat:Int))=xs.map id:=List.map_congr_left fun b _ => by simp
 simp only [strOfNums,List.map_map]
 rw [h,List.map_id]

theorem run_convert_owned {P:Program} {w:World} (src e dst:TypeId) (hs:P.underlying src=some (.slice e)) (he:P.underlying e=some (.int .u8)) (hd:P.underlying dst=some .string)
  {base n:Nat} {v:Value} {xs:List UInt8} (h:w.ownsRow base e 1 v n (bvals xs)) :
  (convert src dst v).run P w=.ok (.string ⟨xs.toArray⟩) w:=by
 rcases h with ⟨hl,⟨rfl,rfl⟩ | ⟨g,cap,cur,rfl,hb,hg,hn,hc,hsz,htk⟩⟩
 ·have hx:xs=[]:=by simpa [bvals] using hl
  subst hx
  rw [run_convert_bytes_nil w src e hs he 0 0 dst hd]
  rfl
 ·have hlen:xs.length=n:=by simpa [bvals] using hl
  rw [← strOfNums_bytes]
  refine run_convert_bytes_arg w src e hs he g 0 n cap (xs.map fun b => (b.toNat:Int)) (by simpa using hlen) (fun i hi => ?_) dst hd
  rw [Nat.zero_add,cell_of_row w g i cur e (0,0) hg]
  have h1:cur.toList[i]?=(bvals xs)[i]?:=by
   rw [← htk,List.getElem?_take,if_pos (by omega)]
  have h2:(bvals xs)[i]?=some (.int .u8 ((xs.map fun b => (b.toNat:Int)).getD i 0)):=by
   have:i < xs.length:=by omega
   simp [bvals,List.getD,List.getElem?_eq_getElem this]
  rw [← h2,← h1]
  simp

theorem cells_one (w:World) (u:Value) (e:TypeId):∀ j x,[u][j]?=some x→(w.alloc (.cells #[u] e)).cell? ((⟨w.heap.size,0,none⟩ : Addr).add j)=some x:=by
 intro j x hj
 match j,hj with
 | 0,hj =>
  simp at hj
  subst hj
  simp [Addr.add]

theorem wpList_append_one {P:Program} {w:World} {ops:Array Oper} {rest:List Oper} {o:Oper} {a:Act} {Q:Exit→Act→World→Prop} (u:Value)
  (hgd:o.guard=none) (s x:Operand) (t:TypeId) (ho:o.op=.call { callee:=.builtin .append,args:=#[s,x],argTypes:=#[t,t] })
  (base:Nat) (e:TypeId) (i:TypeInfo) (z:Value) (bytes:Nat) (ht:P.underlying t=some (.slice e)) (hi:P.info? e=some i) (hz:i.zero=some z)
  (hsize:i.size=1) (hby:i.bytes=bytes) (hzs:z.cells.size=1)
  (v:Value) (n:Nat) (xs:List Value) (hs:a.eval s=v) (hown:w.ownsRow base e 1 v n xs)
  (hx:a.eval x=.slice (some ⟨w.heap.size,0,none⟩) 1 1) (h1:u.oneCell'=true)
  (hbytes:n < 4294967296) (hb:bytes≤4096) (hbase:base≤w.heap.size)
  (h:∀ v' w',w'.ownsRow base e 1 v' (n+1) (xs ++ [u])→Below base w w'→wpList P ops Q rest (a.put o.dst v') w') :
  wpList P ops Q (o :: rest) a (w.alloc (.cells #[u] e)):=by
 refine wpList_append_own _ hgd s x t ho base e i z 1 bytes ht hi hz hsize hby hzs (by decide) v n xs hs (hown.alloc _) ⟨w.heap.size,0,none⟩ 1 1 [u] hx rfl (cells_one w u e) (by simpa using h1)
  (by unfold maxLen; omega) (Nat.le_trans (Nat.mul_le_mul (show n+1≤4294967296 by omega) hb) (by decide)) (by simp; omega) ?_
 intro v' w' hown' hgrow _
 refine h v' w' hown' (((Below.refl base w).alloc hbase _).grown hgrow (by simp; omega) (fun k hk => (hown.lt k hk).1))

theorem wpList_append_u8 {P:Program} {w:World} {ops:Array Oper} {rest:List Oper} {o:Oper} {a:Act} {Q:Exit→Act→World→Prop} (Y:Int) (y:Nat) (hY:Y=(y:Int)) (hy:y < 256)
  (hgd:o.guard=none) (s x:Operand) (t:TypeId) (ho:o.op=.call { callee:=.builtin .append,args:=#[s,x],argTypes:=#[t,t] })
  (base:Nat) (e:TypeId) (i:TypeInfo) (ht:P.underlying t=some (.slice e)) (hi:P.info? e=some i) (hz:i.zero=some (.int .u8 0))
  (hsize:i.size=1) (hby:i.bytes=1)
  (v:Value) (xs:List UInt8) (hs:a.eval s=v) (hown:w.ownsRow base e 1 v xs.length (bvals xs))
  (hx:a.eval x=.slice (some ⟨w.heap.size,0,none⟩) 1 1) (hlen:xs.length < 4294967296) (hbase:base≤w.heap.size)
  (h:∀ v' w',w'.ownsRow base e 1 v' (xs ++ [u8of y]).length (bvals (xs ++ [u8of y]))→Below base w w'→wpList P ops Q rest (a.put o.dst v') w') :
  wpList P ops Q (o :: rest) a (w.alloc (.cells #[.int .u8 Y] e)):=by
 subst hY
 have e1:bvals (xs ++ [u8of y])=bvals xs ++ [.int .u8 (y:Int)]:=by
  rw [bvals_append]
  have:(u8of y).toNat=y:=u8of_toNat hy
  simp [bvals,this]
 refine wpList_append_one (.int .u8 (y:Int)) hgd s x t ho base e i (.int .u8 0) 1 ht hi hz hsize hby rfl v xs.length (bvals xs) hs hown hx rfl hlen (by decide) hbase ?_
 intro v' w' hown' hb
 refine h v' w' ?_ hb
 rw [e1]
 simpa using hown'

theorem or128 (x:Nat):bits .or .u8 ((x:Int) % 256) 128=((x % 128+128:Nat):Int):=by
 have h1:(x:Int) % 256=((x % 256:Nat):Int):=by omega
 rw [h1,show (128:Int)=((128:Nat):Int) from rfl,u8_or_nat _ _ (by omega) (by omega)]
 congr 1
 rw [Nat.or_comm]
 have e:x % 256=128 * (x / 128 % 2)+x % 128:=by omega
 have h2:x / 128 % 2=0∨x / 128 % 2=1:=by omega
 have h3:x % 128 < 2 ^ 7:=by omega
 have h4:128+x % 128=128 ||| x % 128:=Nat.two_pow_add_eq_or_of_lt (i:=7) h3 1
 rcases h2 with h | h
 ·rw [e,h,Nat.mul_zero,Nat.zero_add,← h4]
  omega
 ·rw [e,h,Nat.mul_one,h4,← Nat.or_assoc,Nat.or_self,← h4]
  omega

theorem andNot128 (b:Nat) (h:b < 256):bits .andNot .u8 (b:Int) 128=((b % 128:Nat):Int):=by
 rw [show (128:Int)=((128:Nat):Int) from rfl,u8_andNot_nat _ _ h (by omega)]
 congr 1
 exact Nat.and_two_pow_sub_one_eq_mod b 7

theorem and128 (b:Nat) (h:b < 256):bits .and .u8 (b:Int) 128=((b / 128 % 2 * 128:Nat):Int):=by
 rw [show (128:Int)=((128:Nat):Int) from rfl,u8_and_nat _ _ h (by omega)]
 congr 1
 exact nat_bit 7 b

theorem and128_yes {b:Nat} (h:b < 256) (h':¬ b < 128):(bits .and .u8 (b:Int) 128 != 0)=true:=by
 rw [and128 b h,show b / 128 % 2=1 by omega]; rfl

theorem and128_no {b:Nat} (h:b < 256) (h':b < 128):(bits .and .u8 (b:Int) 128 != 0)=false:=by
 rw [and128 b h,show b / 128 % 2=0 by omega]; rfl

theorem pow7 (i:Nat):2 ^ (7 * i)=128 ^ i:=by rw [Nat.pow_mul]

theorem pow_split (i:Nat) (h:i≤8):∃ c,18446744073709551616=c * (128 ^ i * 128):=by
 have hi8:i=0∨i=1∨i=2∨i=3∨i=4∨i=5∨i=6∨i=7∨i=8:=by omega
 rcases hi8 with rfl | rfl | rfl | rfl | rfl | rfl | rfl | rfl | rfl
 ·exact⟨2 ^ 57,by decide⟩
 ·exact⟨2 ^ 50,by decide⟩
 ·exact⟨2 ^ 43,by decide⟩
 ·exact⟨2 ^ 36,by decide⟩
 ·exact⟨2 ^ 29,by decide⟩
 ·exact⟨2 ^ 22,by decide⟩
 ·exact⟨2 ^ 15,by decide⟩
 ·exact⟨2 ^ 8,by decide⟩
 ·exact⟨2,by decide⟩

theorem sum_lt (acc x i:Nat) (ha:acc < 128 ^ i) (hx:x < 128) (hi:i≤9) (h9:i=9→x≤1):acc+x * 128 ^ i < 18446744073709551616:=by
 by_cases h:i=9
 ·subst h
  have:=h9 rfl
  have h2:x * 128 ^ 9≤1 * 128 ^ 9:=Nat.mul_le_mul_right _ this
  have h3:1 * 128 ^ 9=9223372036854775808:=by decide
  have h4:128 ^ 9=9223372036854775808:=by decide
  omega
 ·obtain⟨c,hc⟩:=pow_split i (by omega)
  rw [hc]
  have hc0:0 < c:=by
   rcases Nat.eq_zero_or_pos c with h0 | h0
   ·subst h0; simp at hc
   ·exact h0
  have h1:(x+1) * 128 ^ i≤128 ^ i * 128:=by rw [Nat.mul_comm (128 ^ i) 128]; exact Nat.mul_le_mul_right _ (by omega)
  have h2:128 ^ i * 128≤c * (128 ^ i * 128):=Nat.le_mul_of_pos_left _ hc0
  rw [Nat.add_mul] at h1
  omega

theorem orShift (acc x i sh:Nat) (hs:sh=7 * i) (ha:acc < 128 ^ i) (hx:x < 128) (hi:i≤9) (h9:i=9→x≤1) :
  bits .or .u64 (acc:Int) (IntKind.u64.wrap (IntKind.u64.wrap (x:Int) * 2 ^ min sh 64))=((acc+x * 128 ^ i:Nat):Int):=by
 have hlt:=sum_lt acc x i ha hx hi h9
 subst hs
 have e0:min (7 * i) 64=7 * i:=by omega
 have e1:IntKind.u64.wrap (x:Int)=(x:Int):=by rw [IntKind.wrap_u64]; omega
 have e2:(2:Int) ^ (7 * i)=((128 ^ i:Nat):Int):=by rw [← pow7]; exact (Int.natCast_pow 2 (7 * i)).symm
 rw [e0,e1,e2,← Int.natCast_mul]
 have e3:IntKind.u64.wrap ((x * 128 ^ i:Nat):Int)=((x * 128 ^ i:Nat):Int):=by rw [IntKind.wrap_u64]; omega
 rw [e3,u64_or_nat _ _ (by omega) (by omega),Nat.or_comm,nat_join (7 * i) _ _ (by rw [pow7]; exact Nat.mul_mod_left _ _) (by rw [pow7]; exact ha),Nat.add_comm]

theorem orShift' (acc x i sh:Nat) (hs:sh=7 * i) (ha:acc < 128 ^ i) (hx:x < 128) (hi:i≤9) (h9:i=9→x≤1) :
  bits .or .u64 (acc:Int) (IntKind.u64.wrap (IntKind.u64.wrap (x:Int) * 2 ^ sh))=((acc+x * 128 ^ i:Nat):Int):=by
 have:=orShift acc x i sh hs ha hx hi h9
 rwa [show min sh 64=sh by omega] at this

theorem or0 (x:Nat) (hx:x < 128):bits .or .u64 0 (x:Int)=(x:Int):=by
 rw [show (0:Int)=((0:Nat):Int) from rfl,u64_or_nat _ _ (by omega) (by omega),Nat.zero_or]

theorem bytes_at (l:List UInt8) (p:Nat) (h:p < (⟨l.toArray⟩ : ByteArray).size):l[p]?=some ((⟨l.toArray⟩ : ByteArray)[p]'h):=by
 have h':p < l.length:=by
  have:(⟨l.toArray⟩ : ByteArray).size=l.length:=by show l.toArray.size=_; simp
  omega
 rw [List.getElem?_eq_getElem h']
 rfl

theorem size_bytes (l:List UInt8):(⟨l.toArray⟩ : ByteArray).size=l.length:=by show l.toArray.size=_; simp

theorem run_slice_bytes {P:Program} (w:World) (t:TypeId) (l:List UInt8) (i j:Nat) (I J:Int) (hI:I=(i:Int)) (hJ:J=(j:Int)) (h:P.underlying t=some .string)
  (h1:i≤j) (h2:j≤l.length) :
  (Instr.slice t (.string ⟨l.toArray⟩) (some (.int .i64 I)) (some (.int .i64 J)) none).run P w=.ok (.string ⟨((l.drop i).take (j - i)).toArray⟩) w:=by
 subst hI
 subst hJ
 rw [run_slice_string w t _ .i64 .i64 i j h (by omega) (by omega) (by rw [size_bytes]; omega),ByteArray.extract_mk]
 simp

theorem run_slice_bytes_to {P:Program} (w:World) (t:TypeId) (l:List UInt8) (j:Nat) (J:Int) (hJ:J=(j:Int)) (h:P.underlying t=some .string) (h2:j≤l.length) :
  (Instr.slice t (.string ⟨l.toArray⟩) none (some (.int .i64 J)) none).run P w=.ok (.string ⟨(l.take j).toArray⟩) w:=by
 subst hJ
 rw [run_slice_string_to_if w t _ .i64 j h,if_pos (by rw [size_bytes]; omega),ByteArray.extract_mk]
 simp

theorem run_slice_bytes_from {P:Program} (w:World) (t:TypeId) (l:List UInt8) (i:Nat) (I:Int) (hI:I=(i:Int)) (h:P.underlying t=some .string) (h2:i≤l.length) :
  (Instr.slice t (.string ⟨l.toArray⟩) (some (.int .i64 I)) none none).run P w=.ok (.string ⟨(l.drop i).toArray⟩) w:=by
 subst hI
 rw [run_slice_string_from_if w t _ .i64 i h,if_pos (by rw [size_bytes]; omega),ByteArray.extract_mk,size_bytes]
 simp only [Int.toNat_natCast]
 rw [List.take_of_length_le (by simp)]

theorem below3 {w a b c:World} (h1:Below w.heap.size w a) (h2:Below a.heap.size a b) (h3:Below b.heap.size b c):Below w.heap.size w c :=
 h1.trans ((h2.mono h1.size).trans (h3.mono (Nat.le_trans h1.size h2.size)))

theorem below2' {w a b:World} (h1:Below w.heap.size w a) (h2:Below a.heap.size a b):Below w.heap.size w b:=h1.trans (h2.mono h1.size)

theorem rgB {P:Program} {f:FuncId} {args:Array Value} {v:Value} (h:∀ w,Calls P f args w fun e w' => e=.returned v∧Below w.heap.size w w') (w:World) (d:Nat) (os:Array Obj) :
  Calls P f args (Sort.grow (redrawn w d) os) fun e w'' => e=.returned v∧∃ p:Regrown,w''=Sort.grow (redrawn w p.d) p.os:=Calls.regrown_of (h _)

theorem rgS {P:Program} {f:FuncId} {args:Array Value} {v:Value} (h:∀ w,Calls P f args w fun e w' => e=.returned v∧w=w') (w:World) (d:Nat) (os:Array Obj) :
  Calls P f args (Sort.grow (redrawn w d) os) fun e w'' => e=.returned v∧∃ p:Regrown,w''=Sort.grow (redrawn w p.d) p.os :=
 Calls.regrown_of ((h _).mono fun _ _ ⟨he,hw⟩ => ⟨he,hw ▸ Below.refl _ _⟩)

def IsRow (k:IntKind) (w:World) (a:Option Addr) (len cap:Nat) (zs:List Int):Prop :=
 (a=none∧len=0∧cap=0∧zs=[]) ∨
 ∃ x,a=some x∧len≤cap∧cap≤maxLen∧zs.length=cap∧(∀ i,i < zs.length→w.cell? (x.add i)=some (.int k (zs.getD i 0)))∧∀ n ∈ zs,(Lit.int k n).wf=true

def IsStrs (w:World) (a:Option Addr) (len cap:Nat) (ss:List ByteArray):Prop :=
 (a=none∧len=0∧cap=0∧ss=[]) ∨
 ∃ x,a=some x∧len≤cap∧cap≤maxLen∧ss.length=cap∧(∀ i,i < ss.length→w.cell? (x.add i)=some (.string (ss.getD i ByteArray.empty)))∧∀ s ∈ ss,s.size≤maxLen

theorem run_convert_new {P:Program} (w:World) (src e dst:TypeId) (hs:P.underlying src=some (.slice e)) (he:P.underlying e=some (.int .u8)) (hd:P.underlying dst=some .string)
  (cs:Array Value) (xs:List UInt8) (h:cs=(bvals xs).toArray) (n:Nat) (hn:n=xs.length) (hm:n≤maxLen) :
  (convert src dst (.slice (some ⟨w.heap.size,0,none⟩) n n)).run P (w.alloc (.cells cs e))=.ok (.string ⟨xs.toArray⟩) (w.alloc (.cells cs e)):=by
 subst h
 subst hn
 refine run_convert_owned src e dst hs he hd (base:=0) (n:=xs.length) (xs:=xs) ⟨by simp [bvals],.inr ⟨w.heap.size,xs.length,(bvals xs).toArray,rfl,Nat.zero_le _,heap_alloc_new w _,Nat.le_refl _,hm,by simp [bvals],?_⟩⟩
 simp only [Nat.mul_one]
 exact List.take_of_length_le (by simp [bvals])
end
section
open Go.RowKit

theorem Tryz.info5:(Tryz.prog.info? 5).map (fun i => (i.zero,i.size,i.bytes))=some (some (.int .u8 0),1,1):=by kernel_rfl

theorem put_any (n:Nat) (hn:n < 18446744073709551616) (w:World) :
  Calls Tryz.prog 105 #[.int .u64 n] w fun e w' => e=.returned (.string ⟨(vput n).toArray⟩)∧Below w.heap.size w w':=by
 obtain⟨i0,hi,hz0,hz1,hz2⟩:=info_parts Tryz.info5
 go_enter Tryz.func105,Tryz.ntmps105
 go_wp2
 go_loopw [0,3] (fun i v wr => ∃ (m:Nat) (xs:List UInt8),m < 18446744073709551616∧xs ++ vput m=vput n∧i=.int .u64 m∧wr.ownsRow w.heap.size 5 1 v xs.length (bvals xs)∧Below w.heap.size w wr)
  (fun i _ _ => (intOf i).toNat)
 case atStart => exact⟨n,[],hn,rfl,rfl,World.ownsRow_nil _ _ _ _,Below.refl _ _⟩
 case round =>
  obtain⟨m,xs,hm,hx,rfl,hown,hnx⟩:=hrel
  have hlen:xs.length≤10:=by
   have h1:=congrArg List.length hx
   have h2:=vput_len_le n
   simp at h1; omega
  have hsz:=hnx.size
  by_cases hlt:m < 128
  ·have hv:=vput_lt hlt
   go_wp2_with (at_builtin; go_must (refine wpList_append_u8 _ m rfl (by omega) rfl _ _ 118 rfl w.heap.size 5 i0 Tryz.underlying118 hi hz0 hz1 hz2 _ xs rfl (by exact hown) rfl (by omega) hsz ?_))
   intro v' w1 hown' hb
   have hc:=run_convert_owned (P:=Tryz.prog) 118 5 9 Tryz.underlying118 Tryz.underlying5 Tryz.underlying9 hown'
   go_wp2
   go_ret
   exact⟨by rw [← hx,hv]; rfl,hnx.trans hb⟩
  ·have hv:=vput_ge (by omega) hm
   go_wp2_with (at_builtin; go_must (refine wpList_append_u8 _ (m % 128+128) (or128 m) (by omega) rfl _ _ 118 rfl w.heap.size 5 i0 Tryz.underlying118 hi hz0 hz1 hz2 _ xs rfl (by exact hown) rfl (by omega) hsz ?_))
   intro v' w1 hown' hb
   go_wp2
   go_roundw
   case rel => exact⟨m / 128,xs ++ [u8of (m % 128+128)],by omega,by rw [← hx,hv]; simp,by go_num,by simpa using hown',hnx.trans hb⟩
   case measure => simp [intOf]; omega

theorem rput_any (n:Nat) (hn:n < 18446744073709551616) (w:World) :
  Calls Tryz.prog 84 #[.int .u64 n] w fun e w' => e=.returned (.string ⟨(vput n).toArray⟩)∧Below w.heap.size w w':=by
 obtain⟨i0,hi,hz0,hz1,hz2⟩:=info_parts Tryz.info5
 go_enter Tryz.func84,Tryz.ntmps84
 go_wp2
 go_loopw [0,3] (fun i v wr => ∃ (m:Nat) (xs:List UInt8),m < 18446744073709551616∧xs ++ vput m=vput n∧i=.int .u64 m∧wr.ownsRow w.heap.size 5 1 v xs.length (bvals xs)∧Below w.heap.size w wr)
  (fun i _ _ => (intOf i).toNat)
 case atStart => exact⟨n,[],hn,rfl,rfl,World.ownsRow_made w #[] 0 (Nat.le_refl _) (by decide) rfl,(Below.refl _ _).alloc (Nat.le_refl _) _⟩
 case round =>
  obtain⟨m,xs,hm,hx,rfl,hown,hnx⟩:=hrel
  have hlen:xs.length≤10:=by
   have h1:=congrArg List.length hx
   have h2:=vput_len_le n
   simp at h1; omega
  have hsz:=hnx.size
  by_cases hlt:m < 128
  ·have hv:=vput_lt hlt
   go_wp2_with (at_builtin; go_must (refine wpList_append_u8 _ m rfl (by omega) rfl _ _ 118 rfl w.heap.size 5 i0 Tryz.underlying118 hi hz0 hz1 hz2 _ xs rfl (by exact hown) rfl (by omega) hsz ?_))
   intro v' w1 hown' hb
   have hc:=run_convert_owned (P:=Tryz.prog) 118 5 9 Tryz.underlying118 Tryz.underlying5 Tryz.underlying9 hown'
   go_wp2
   go_ret
   exact⟨by rw [← hx,hv]; rfl,hnx.trans hb⟩
  ·have hv:=vput_ge (by omega) hm
   go_wp2_with (at_builtin; go_must (refine wpList_append_u8 _ (m % 128+128) (by omega) (by omega) rfl _ _ 118 rfl w.heap.size 5 i0 Tryz.underlying118 hi hz0 hz1 hz2 _ xs rfl (by exact hown) rfl (by omega) hsz ?_))
   intro v' w1 hown' hb
   go_wp2
   go_roundw
   case rel => exact⟨m / 128,xs ++ [u8of (m % 128+128)],by omega,by rw [← hx,hv]; simp,by go_num,by simpa using hown',hnx.trans hb⟩
   case measure => simp [intOf]; omega

theorem text_any (l:List UInt8) (hl:l.length≤4294967296) (w:World) :
  Calls Tryz.prog 169 #[.string ⟨l.toArray⟩] w fun e w' => e=.returned (.string ⟨(vput l.length ++ l).toArray⟩)∧Below w.heap.size w w':=by
 go_enter Tryz.func169,Tryz.ntmps169
 have hlen:=vput_len_le l.length
 go_wp2_with (go_at_call 105; go_must (refine (put_any l.length (by omega) _).mono ?_); rintro e w' ⟨rfl,hb⟩)
 go_ret
 exact⟨rfl,hb⟩

theorem rtext_any (l:List UInt8) (hl:l.length≤4294967296) (w:World) :
  Calls Tryz.prog 111 #[.string ⟨l.toArray⟩] w fun e w' => e=.returned (.string ⟨(vput l.length ++ l).toArray⟩)∧Below w.heap.size w w':=by
 go_enter Tryz.func111,Tryz.ntmps111
 have hlen:=vput_len_le l.length
 go_wp2_with (go_at_call 84; go_must (refine (rput_any l.length (by omega) _).mono ?_); rintro e w' ⟨rfl,hb⟩)
 go_ret
 exact⟨rfl,hb⟩
end
section
open Go.RowKit

def triple (r:Nat × Nat × Nat):Value:=.tuple #[.int .u64 r.1,.int .i64 r.2.1,.int .i64 r.2.2]

def GetJ (l : List UInt8) (q : Nat) (w : World) (a' : Act) (w' : World) : Prop := w' = w ∧ ∃ (i acc p sh : Nat) (u10 u11 u12 u13 u14 u15 u16 u17 u18 u19 u20 u21 u22 u23 u24 u25 u26 u27 u28 u29 u30 u31 u32 u33 u34 u35 u36 u37 u38 u39 u40 u41 u42 u43 u44 u45 u46 u47 u48 u49 u50 u51 u52 u53 u54 u55 u56 : Value), i ≤ 9 ∧ 1 ≤ i ∧ p ≤ l.length ∧ Hid (GetAt l q i acc p sh) ∧
      a' = { tmps := #[.string ⟨l.toArray⟩, .int .i64 q, undef, undef, .int .u64 0, .int .i64 0, .int .i64 0, .int .u64 acc, .int .u64 sh, .int .i64 p, u10, u11, u12, u13, u14, u15, u16, u17, u18, u19, u20, u21, u22, u23, u24, u25, u26, u27, u28, u29, u30, u31, u32, u33, u34, u35, u36, u37, u38, u39, u40, u41, u42, u43, u44, u45, u46, u47, u48, u49, u50, u51, u52, u53, u54, u55, u56], defers := [] }

def GetM (l:List UInt8) (a':Act) (_:World):Nat:=l.length - (intOf (a'.tmps.getD 9 undef)).toNat

set_option maxRecDepth 1000000 in
theorem get_in (l:List UInt8) (hl:l.length≤4294967296) (q:Nat) (hq:q≤l.length) (w:World) :
  Calls Tryz.prog 103 #[.string ⟨l.toArray⟩,.int .i64 q] w fun e w' => e=.returned (triple (vget l q))∧w=w':=by
 go_enter Tryz.func103,Tryz.ntmps103
 go_wp2
 refine wp_scope_jumps 0 (GetJ l q w) (GetM l) rfl ?_ ?_
 ·have Hall:=hZq (getAt_start l q)
  by_cases hend:q=l.length
  ·have t1:((q:Int) == (l.length:Int))=true:=by rw [hend]; simp
   have HR:=hZq (getAt_end Hall.out hq hend)
   clear hend
   go_wp2
   go_step3
   go_wp2
   simp only [Exit.jump]
   go_ret3
   exact⟨by rw [HR.out]; rfl,rfl⟩
  ·have t1:((q:Int) == (l.length:Int))=false:=by simp; omega
   have hlt:q < l.length:=by omega
   have hlt':q < (⟨l.toArray⟩ : ByteArray).size:=by show _ < l.toArray.size; simpa using hlt
   obtain⟨b,hb⟩ : ∃ b:UInt8,(⟨l.toArray⟩ : ByteArray)[q]'hlt'=b:=⟨_,rfl⟩
   have HB:Hid (l[q]?=some b):=by rw [← hb]; exact bytes_at l q hlt'
   have h256:=b.toNat_lt
   have t5:=andNot128 b.toNat (by omega)
   have t6:=or0 (b.toNat % 128) (by omega)
   obtain⟨x,hx⟩ : ∃ x,x=b.toNat % 128:=⟨_,rfl⟩
   have hxl:x < 128:=by omega
   rw [← hx] at t5 t6
   have HX:=hZq hx
   clear hx hend
   by_cases h0:b.toNat < 128
   ·have t4:=and128_no (by omega) h0
    have HR:=hZq (getAt_last Hall.out hq HB.out (by omega) h0 (by omega))
    have Hf:Hid (0+b.toNat % 128 * 128 ^ 0=x):=by show _=_; rw [← HX.out]; simp
    clear h0
    by_cases hz:b.toNat=0
    ·have t7:((b.toNat:Int) == 0)=true:=by simp; omega
     clear hz
     go_wp2
     go_step3
     go_wp2
     simp only [Exit.jump]
     go_ret3
     exact⟨by rw [HR.out,Hf.out]; rfl,rfl⟩
    ·have t7:((b.toNat:Int) == 0)=false:=by simp; omega
     clear hz
     go_wp2
     go_step3
     go_wp2
     simp only [Exit.jump]
     go_ret3
     exact⟨by rw [HR.out,Hf.out]; rfl,rfl⟩
   ·have t4:=and128_yes (by omega) h0
    have HN:=hZq (getAt_next Hall.out HB.out (by omega) h0)
    have Hf:Hid (0+b.toNat % 128 * 128 ^ 0=x):=by show _=_; rw [← HX.out]; simp
    clear h0
    go_wp2
    go_step3
    go_wp2
    go_step3
    exact⟨rfl,rfl,1,x,q+1,7,_,_,_,_,_,_,_,_,_,_,_,_,_,_,_,_,_,_,_,_,_,_,_,_,_,_,_,_,_,_,_,_,_,_,_,_,_,_,_,_,_,_,_,_,_,_,_,by omega,by omega,by omega,by rw [← Hf.out]; exact HN.out,rfl⟩
 ·rintro a' w' ⟨rfl,i,acc,p,sh,u10,u11,u12,u13,u14,u15,u16,u17,u18,u19,u20,u21,u22,u23,u24,u25,u26,u27,u28,u29,u30,u31,u32,u33,u34,u35,u36,u37,u38,u39,u40,u41,u42,u43,u44,u45,u46,u47,u48,u49,u50,u51,u52,u53,u54,u55,u56,hi9,hi1,hpl,Hall,rfl⟩
  by_cases hend:p=l.length
  ·have t1:((p:Int) == (l.length:Int))=true:=by rw [hend]; simp
   have R:=getAt_end Hall.out hq hend
   have HR:=hZq R
   clear hend R
   go_wp2
   simp only [Exit.jump]
   go_ret3
   exact⟨by rw [HR.out]; rfl,rfl⟩
  ·have t1:((p:Int) == (l.length:Int))=false:=by simp; omega
   have hlt:p < l.length:=by omega
   have hlt':p < (⟨l.toArray⟩ : ByteArray).size:=by show _ < l.toArray.size; simpa using hlt
   obtain⟨b,hb⟩ : ∃ b:UInt8,(⟨l.toArray⟩ : ByteArray)[p]'hlt'=b:=⟨_,rfl⟩
   have HB:Hid (l[p]?=some b):=by rw [← hb]; exact bytes_at l p hlt'
   have h256:=b.toNat_lt
   clear hend
   by_cases h91:i=9∧1 < b.toNat
   ·have t2:((sh:Int) == 63)=true:=by have:=Hall.out.2.2.1; simp; omega
    have t3:(1:Int) < b.toNat:=by omega
    have HR:=hZq (getAt_form Hall.out hq HB.out (.inl h91))
    clear h91
    go_wp2
    simp only [Exit.jump]
    go_ret3
    exact⟨by rw [HR.out]; rfl,rfl⟩
   ·have H91:=hZq h91
    clear h91
    have t5:=andNot128 b.toNat (by omega)
    have t6:=orShift' acc (b.toNat % 128) i sh Hall.out.2.2.1 Hall.out.1 (by omega) hi9 (fun h => by have:=H91.out; omega)
    have hs:=sum_lt acc (b.toNat % 128) i Hall.out.1 (by omega) hi9 (fun h => by have:=H91.out; omega)
    obtain⟨acc',Hacc'⟩ : ∃ acc',Hid (acc'=acc+b.toNat % 128 * 128 ^ i):=⟨_,rfl⟩
    rw [← Hacc'.out] at t6 hs
    obtain⟨x,hx⟩ : ∃ x,x=b.toNat % 128:=⟨_,rfl⟩
    rw [← hx] at t5 t6
    have HX:=hZq hx
    clear hx
    have hsh:sh≤63:=by have:=Hall.out.2.2.1; omega
    by_cases h0:b.toNat < 128
    ·have t4:=and128_no (by omega) h0
     by_cases hz:b.toNat=0
     ·have t7:((b.toNat:Int) == 0)=true:=by simp; omega
      have t8:((p:Int)+1 != (q:Int)+1)=true:=by have:=Hall.out.2.1; simp; omega
      have HR:=hZq (getAt_form Hall.out hq HB.out (.inr ⟨h0,hz,by omega⟩))
      clear hz h0
      by_cases h9:i=9
      ·have t2:((sh:Int) == 63)=true:=by have:=Hall.out.2.2.1; simp; omega
       have t3:¬ (1:Int) < b.toNat:=by have:=H91.out; omega
       clear h9
       go_wp2
       simp only [Exit.jump]
       go_ret3
       exact⟨by rw [HR.out]; rfl,rfl⟩
      ·have t2:((sh:Int) == 63)=false:=by have:=Hall.out.2.2.1; simp; omega
       clear h9
       go_wp2
       simp only [Exit.jump]
       go_ret3
       exact⟨by rw [HR.out]; rfl,rfl⟩
     ·have t7:((b.toNat:Int) == 0)=false:=by simp; omega
      have HR:=hZq (getAt_last Hall.out hq HB.out H91.out h0 (by omega))
      clear hz h0
      by_cases h9:i=9
      ·have t2:((sh:Int) == 63)=true:=by have:=Hall.out.2.2.1; simp; omega
       have t3:¬ (1:Int) < b.toNat:=by have:=H91.out; omega
       clear h9
       go_wp2
       simp only [Exit.jump]
       go_ret3
       exact⟨by rw [HR.out,← Hacc'.out]; rfl,rfl⟩
      ·have t2:((sh:Int) == 63)=false:=by have:=Hall.out.2.2.1; simp; omega
       clear h9
       go_wp2
       simp only [Exit.jump]
       go_ret3
       exact⟨by rw [HR.out,← Hacc'.out]; rfl,rfl⟩
    ·have t4:=and128_yes (by omega) h0
     have hi8:i≤8:=by have:=H91.out; omega
     have t2:((sh:Int) == 63)=false:=by have:=Hall.out.2.2.1; simp; omega
     have HN:=hZq (getAt_next Hall.out HB.out H91.out h0)
     clear h0
     go_wp2
     go_step3
     refine ⟨rfl,⟨rfl,i+1,acc',p+1,sh+7,_,_,_,_,_,_,_,_,_,_,_,_,_,_,_,_,_,_,_,_,_,_,_,_,_,_,_,_,_,_,_,_,_,_,_,_,_,_,_,_,_,_,_,_,_,_,_,by omega,by omega,by omega,by rw [Hacc'.out]; exact HN.out,rfl⟩,?_⟩
     simp [GetM,intOf]
     omega

theorem vget_out {l:List UInt8} {p:Int} (h:p < 0∨(l.length:Int) < p):vget l p=(0,0,1):=by
 unfold vget
 rw [if_pos h]

set_option maxRecDepth 1000000 in
theorem get_any (l:List UInt8) (hl:l.length≤4294967296) (p:Int) (w:World) :
  Calls Tryz.prog 103 #[.string ⟨l.toArray⟩,.int .i64 p] w fun e w' => e=.returned (triple (vget l p))∧w=w':=by
 by_cases h:p < 0∨(l.length:Int) < p
 ·rw [vget_out h]
  by_cases h1:p < 0
  ·clear h
   go_enter Tryz.func103,Tryz.ntmps103
   go_wp2
   go_step3
   go_wp2
   rw [Exit.noGoto_ret]
   go_ret3
   exact⟨rfl,rfl⟩
  ·have h2:(l.length:Int) < p:=by omega
   clear h
   go_enter Tryz.func103,Tryz.ntmps103
   go_wp2
   go_step3
   go_wp2
   rw [Exit.noGoto_ret]
   go_ret3
   exact⟨rfl,rfl⟩
 ·obtain⟨q,rfl⟩:=Int.eq_ofNat_of_zero_le (show 0≤p by omega)
  exact get_in l hl q (by omega) w
end
section
open Go.RowKit

set_option maxRecDepth 1000000 in
theorem rget_in (l:List UInt8) (hl:l.length≤4294967296) (q:Nat) (hq:q≤l.length) (w:World) :
  Calls Tryz.prog 106 #[.string ⟨l.toArray⟩,.int .i64 q] w fun e w' => e=.returned (triple (vget l q))∧w=w':=by
 have b1:decide (l.length < q)=false:=by simp; omega
 have b2:decide ((q:Int) < 0)=false:=by simp
 go_enter Tryz.func106,Tryz.ntmps106
 go_wp2
 go_loop [7,8,9] (fun n P c => ∃ i acc pw:Nat,i≤9∧q+i≤l.length∧n=.int .u64 acc∧P=.int .u64 pw∧c=.int .i64 i∧Hid (pw=128 ^ i)∧Hid (GetAt l q i acc (q+i) (7 * i)))
  (fun _ _ c => (10 - (intOf c).toNat))
 case atStart => exact⟨0,0,1,by omega,by omega,rfl,rfl,rfl,rfl,getAt_start l q⟩
 case round =>
  obtain⟨i,acc,pw,hi9,hqi,rfl,rfl,rfl,HP,Hall⟩:=hrel
  by_cases hend:q+i=l.length
  ·have HR:=hZq (getAt_end Hall.out hq hend)
   have t1:(l.length:Int)≤(q:Int)+i:=by omega
   clear hend
   go_wp2
   go_ret3
   exact⟨by rw [HR.out]; rfl,rfl⟩
  ·have hlt:q+i < l.length:=by omega
   have t1:¬ (l.length:Int)≤(q:Int)+i:=by omega
   have hlt':q+i < (⟨l.toArray⟩ : ByteArray).size:=by show _ < l.toArray.size; simpa using hlt
   obtain⟨b,hb⟩ : ∃ b:UInt8,(⟨l.toArray⟩ : ByteArray)[q+i]'hlt'=b:=⟨_,rfl⟩
   have HB:Hid (l[q+i]?=some b):=by rw [← hb]; exact bytes_at l (q+i) hlt'
   have h256:=b.toNat_lt
   clear hend
   by_cases h91:i=9∧1 < b.toNat
   ·have t2:((i:Int) == 9)=true:=by simp; omega
    have t3:(1:Int) < b.toNat:=by omega
    have HR:=hZq (getAt_form Hall.out hq HB.out (.inl h91))
    clear h91
    go_wp2
    go_ret3
    exact⟨by rw [HR.out]; rfl,rfl⟩
   ·have H91:=hZq h91
    clear h91
    have hs:=sum_lt acc (b.toNat % 128) i Hall.out.1 (by omega) hi9 (fun h => by have:=H91.out; omega)
    obtain⟨z,hz⟩ : ∃ z,z=b.toNat % 128 * 128 ^ i:=⟨_,rfl⟩
    have t6:IntKind.u64.wrap ((b.toNat:Int) % 128 * (pw:Int))=(z:Int):=by
     rw [IntKind.wrap_u64,HP.out,hz]
     have:(b.toNat:Int) % 128=((b.toNat % 128:Nat):Int):=by omega
     rw [this,← Int.natCast_mul]
     omega
    have t9:(((i:Int) == 9)=true∧¬ (1:Int) < b.toNat)∨((i:Int) == 9)=false:=by
     by_cases h:i=9
     ·exact .inl ⟨by simp; omega,by have:=H91.out; omega⟩
     ·exact .inr (by simp; omega)
    have T9:=hZq t9
    clear t9
    by_cases h0:b.toNat < 128
    ·by_cases hz0:b.toNat=0∧0 < i
     ·have t7:((b.toNat:Int) == 0)=true:=by simp; omega
      have t8:(0:Int) < i:=by omega
      have HR:=hZq (getAt_form Hall.out hq HB.out (.inr ⟨h0,hz0⟩))
      rw [← hz] at hs
      clear hz hz0
      rcases T9.out with ⟨t2,t3⟩ | t2
      all_goals
       clear T9
       go_wp2
       go_ret3
       exact⟨by rw [HR.out]; rfl,rfl⟩
     ·have HR:=hZq (getAt_last Hall.out hq HB.out H91.out h0 hz0)
      rw [← hz] at hs HR
      clear hz
      have t7:(((b.toNat:Int) == 0)=true∧¬ (0:Int) < i)∨((b.toNat:Int) == 0)=false:=by
       by_cases h:b.toNat=0
       ·exact .inl ⟨by simp; omega,by omega⟩
       ·exact .inr (by simp; omega)
      have T7:=hZq t7
      clear t7 hz0
      rcases T9.out with ⟨t2,t3⟩ | t2
      all_goals
       clear T9
       rcases T7.out with ⟨t7,t8⟩ | t7
       all_goals
        clear T7
        go_wp2
        go_ret3
        exact⟨by rw [HR.out]; rfl,rfl⟩
    ·have hi8:i≤8:=by have:=H91.out; omega
     have t2:((i:Int) == 9)=false:=by simp; omega
     have HN:=hZq (getAt_next Hall.out HB.out H91.out h0)
     rw [← hz] at hs HN
     clear hz
     have hpw:pw * 128 < 18446744073709551616:=by
      rw [HP.out]
      calc 128 ^ i * 128≤128 ^ 8 * 128:=Nat.mul_le_mul_right _ (Nat.pow_le_pow_right (by decide) hi8)
       _ < 18446744073709551616:=by decide
     go_wp2
     go_round
     case rel => exact⟨i+1,acc+z,pw * 128,by omega,by omega,by go_num,by go_num,by go_num,by show _=_; rw [HP.out,Nat.pow_succ],by show GetAt _ _ _ _ _ _; rw [← Nat.add_assoc,show 7 * (i+1)=7 * i+7 by omega]; exact HN.out⟩
     case measure => simp [intOf]; omega

set_option maxRecDepth 1000000 in
theorem rget_any (l:List UInt8) (hl:l.length≤4294967296) (p:Int) (w:World) :
  Calls Tryz.prog 106 #[.string ⟨l.toArray⟩,.int .i64 p] w fun e w' => e=.returned (triple (vget l p))∧w=w':=by
 by_cases h:p < 0∨(l.length:Int) < p
 ·rw [vget_out h]
  by_cases h1:p < 0
  ·clear h
   go_enter Tryz.func106,Tryz.ntmps106
   go_wp2
   go_ret3
   exact⟨rfl,rfl⟩
  ·have h2:(l.length:Int) < p:=by omega
   clear h
   go_enter Tryz.func106,Tryz.ntmps106
   go_wp2
   go_ret3
   exact⟨rfl,rfl⟩
 ·obtain⟨q,rfl⟩:=Int.eq_ofNat_of_zero_le (show 0≤p by omega)
  exact rget_in l hl q (by omega) w
end
section
open Go.RowKit

def tripleS (r:List UInt8 × Nat × Nat):Value:=.tuple #[.string ⟨r.1.toArray⟩,.int .i64 r.2.1,.int .i64 r.2.2]

theorem get_eq (l:List UInt8) (hl:l.length≤4294967296) (p:Int) (w:World) {n f er:Nat} (h:Hid (vget l p=(n,f,er))) :
  Calls Tryz.prog 103 #[.string ⟨l.toArray⟩,.int .i64 p] w fun e w' => e=.returned (.tuple #[.int .u64 n,.int .i64 f,.int .i64 er])∧w=w':=by
 have:=get_any l hl p w
 rwa [h.out] at this

theorem rget_eq (l:List UInt8) (hl:l.length≤4294967296) (p:Int) (w:World) {n f er:Nat} (h:Hid (vget l p=(n,f,er))) :
  Calls Tryz.prog 106 #[.string ⟨l.toArray⟩,.int .i64 p] w fun e w' => e=.returned (.tuple #[.int .u64 n,.int .i64 f,.int .i64 er])∧w=w':=by
 have:=rget_any l hl p w
 rwa [h.out] at this

set_option maxRecDepth 1000000 in
theorem take_any (l:List UInt8) (hl:l.length≤4294967296) (p most:Int) (hm:most≤9223372036854775807) (w:World) :
  Calls Tryz.prog 170 #[.string ⟨l.toArray⟩,.int .i64 p,.int .i64 most] w fun e w' => e=.returned (tripleS (vtake l p most))∧w=w':=by
 obtain⟨n,f,er,hg⟩ : ∃ n f er,vget l p=(n,f,er):=⟨_,_,_,rfl⟩
 obtain⟨hn,hf,_⟩:=vget_facts hg
 have HG:=hZq hg
 by_cases he:er=0
 ·subst he
  by_cases h1:most < 0
  ·have HR:Hid (vtake l p most=([],0,3)):=by show _=_; unfold vtake; rw [hg]; simp [h1]
   clear hg
   go_enter Tryz.func170,Tryz.ntmps170
   go_wp2_with (go_at_call 103; go_must (refine (get_eq l hl p _ HG).mono ?_); rintro e w' ⟨rfl,rfl⟩)
   go_ret3
   exact⟨by rw [HR.out]; rfl,rfl⟩
  ·have h1':0≤most:=by omega
   by_cases h2:most < (n:Int)
   ·have HR:Hid (vtake l p most=([],0,3)):=by show _=_; unfold vtake; rw [hg]; simp [h2]
    clear hg h1
    go_enter Tryz.func170,Tryz.ntmps170
    go_wp2_with (go_at_call 103; go_must (refine (get_eq l hl p _ HG).mono ?_); rintro e w' ⟨rfl,rfl⟩)
    go_ret3
    exact⟨by rw [HR.out]; rfl,rfl⟩
   ·by_cases h3:l.length - f < n
    ·have HR:Hid (vtake l p most=([],0,2)):=by show _=_; unfold vtake; rw [hg]; simp [h1,h2,h3]
     have h3':(l.length:Int) - f < n:=by omega
     clear hg h1 h3
     go_enter Tryz.func170,Tryz.ntmps170
     go_wp2_with (go_at_call 103; go_must (refine (get_eq l hl p _ HG).mono ?_); rintro e w' ⟨rfl,rfl⟩)
     go_ret3
     exact⟨by rw [HR.out]; rfl,rfl⟩
    ·have HR:Hid (vtake l p most=((l.drop f).take n,f+n,0)):=by show _=_; unfold vtake; rw [hg]; simp [h1,h2,h3]
     have h3':¬ (l.length:Int) - f < n:=by omega
     have hsl:=fun w => run_slice_bytes (P:=Tryz.prog) w 9 l f (f+n) f (f+n) rfl (by omega) Tryz.underlying9 (by omega) (by omega)
     rw [show f+n - f=n by omega] at hsl
     clear hg h1 h3
     go_enter Tryz.func170,Tryz.ntmps170
     go_wp2_with (go_at_call 103; go_must (refine (get_eq l hl p _ HG).mono ?_); rintro e w' ⟨rfl,rfl⟩)
     go_ret3
     exact⟨by rw [HR.out]; rfl,rfl⟩
 ·have HR:Hid (vtake l p most=([],0,er)):=by show _=_; unfold vtake; rw [hg]; simp [he]
  have t1:((er:Int) != 0)=true:=by simp; omega
  clear hg he
  go_enter Tryz.func170,Tryz.ntmps170
  go_wp2_with (go_at_call 103; go_must (refine (get_eq l hl p _ HG).mono ?_); rintro e w' ⟨rfl,rfl⟩)
  go_ret3
  exact⟨by rw [HR.out]; rfl,rfl⟩

set_option maxRecDepth 1000000 in
theorem rtake_any (l:List UInt8) (hl:l.length≤4294967296) (p most:Int) (hm:most≤9223372036854775807) (w:World) :
  Calls Tryz.prog 143 #[.string ⟨l.toArray⟩,.int .i64 p,.int .i64 most] w fun e w' => e=.returned (tripleS (vtake l p most))∧w=w':=by
 obtain⟨n,f,er,hg⟩ : ∃ n f er,vget l p=(n,f,er):=⟨_,_,_,rfl⟩
 obtain⟨hn,hf,_⟩:=vget_facts hg
 have HG:=hZq hg
 by_cases he:er=0
 ·subst he
  by_cases h1:most < 0
  ·have HR:Hid (vtake l p most=([],0,3)):=by show _=_; unfold vtake; rw [hg]; simp [h1]
   clear hg
   go_enter Tryz.func143,Tryz.ntmps143
   go_wp2_with (go_at_call 106; go_must (refine (rget_eq l hl p _ HG).mono ?_); rintro e w' ⟨rfl,rfl⟩)
   go_ret3
   exact⟨by rw [HR.out]; rfl,rfl⟩
  ·have h1':0≤most:=by omega
   by_cases h2:most < (n:Int)
   ·have HR:Hid (vtake l p most=([],0,3)):=by show _=_; unfold vtake; rw [hg]; simp [h2]
    clear hg h1
    go_enter Tryz.func143,Tryz.ntmps143
    go_wp2_with (go_at_call 106; go_must (refine (rget_eq l hl p _ HG).mono ?_); rintro e w' ⟨rfl,rfl⟩)
    go_ret3
    exact⟨by rw [HR.out]; rfl,rfl⟩
   ·by_cases h3:l.length - f < n
    ·have HR:Hid (vtake l p most=([],0,2)):=by show _=_; unfold vtake; rw [hg]; simp [h1,h2,h3]
     have h3':(l.length:Int) - f < n:=by omega
     clear hg h1 h3
     go_enter Tryz.func143,Tryz.ntmps143
     go_wp2_with (go_at_call 106; go_must (refine (rget_eq l hl p _ HG).mono ?_); rintro e w' ⟨rfl,rfl⟩)
     go_ret3
     exact⟨by rw [HR.out]; rfl,rfl⟩
    ·have HR:Hid (vtake l p most=((l.drop f).take n,f+n,0)):=by show _=_; unfold vtake; rw [hg]; simp [h1,h2,h3]
     have h3':¬ (l.length:Int) - f < n:=by omega
     have hsl:=fun w => run_slice_bytes (P:=Tryz.prog) w 9 l f (f+n) f (f+n) rfl (by omega) Tryz.underlying9 (by omega) (by omega)
     rw [show f+n - f=n by omega] at hsl
     clear hg h1 h3
     go_enter Tryz.func143,Tryz.ntmps143
     go_wp2_with (go_at_call 106; go_must (refine (rget_eq l hl p _ HG).mono ?_); rintro e w' ⟨rfl,rfl⟩)
     go_ret3
     exact⟨by rw [HR.out]; rfl,rfl⟩
 ·have HR:Hid (vtake l p most=([],0,er)):=by show _=_; unfold vtake; rw [hg]; simp [he]
  have t1:((er:Int) != 0)=true:=by simp; omega
  clear hg he
  go_enter Tryz.func143,Tryz.ntmps143
  go_wp2_with (go_at_call 106; go_must (refine (rget_eq l hl p _ HG).mono ?_); rintro e w' ⟨rfl,rfl⟩)
  go_ret3
  exact⟨by rw [HR.out]; rfl,rfl⟩

theorem rtake_eq (l:List UInt8) (hl:l.length≤4294967296) (p most:Int) (hm:most≤9223372036854775807) (w:World) {t:List UInt8} {f er:Nat} (h:Hid (vtake l p most=(t,f,er))) :
  Calls Tryz.prog 143 #[.string ⟨l.toArray⟩,.int .i64 p,.int .i64 most] w fun e w' => e=.returned (.tuple #[.string ⟨t.toArray⟩,.int .i64 f,.int .i64 er])∧w=w':=by
 have:=rtake_any l hl p most hm w
 rwa [h.out] at this

theorem take_eq (l:List UInt8) (hl:l.length≤4294967296) (p most:Int) (hm:most≤9223372036854775807) (w:World) {t:List UInt8} {f er:Nat} (h:Hid (vtake l p most=(t,f,er))) :
  Calls Tryz.prog 170 #[.string ⟨l.toArray⟩,.int .i64 p,.int .i64 most] w fun e w' => e=.returned (.tuple #[.string ⟨t.toArray⟩,.int .i64 f,.int .i64 er])∧w=w':=by
 have:=take_any l hl p most hm w
 rwa [h.out] at this
end
section
open Go.Lib Go.Sort

/-! ### Names -/

def lcOk (b:UInt8):Bool:=decide (97≤b.toNat) && decide (b.toNat≤122)
def dgOk (b:UInt8):Bool:=(decide (48≤b.toNat) && decide (b.toNat≤57)) || decide (b.toNat=45)
def inOk (b:UInt8):Bool:=lcOk b || dgOk b

def idIs (l:List UInt8):Bool:=decide (1≤l.length) && (decide (l.length≤16) && (lcOk (l.getD 0 0) && l.all inOk))

def low1 (b:UInt8):UInt8:=if 65≤b.toNat∧b.toNat≤90 then u8of (b.toNat+32) else b
def idLow (l:List UInt8):List UInt8:=l.map low1

def idFold (l:List UInt8):List UInt8 × Bool:=if idIs (idLow l)=true then (idLow l,true) else ([],false)
def idPut (l:List UInt8):List UInt8 × Bool:=if idIs l=true then (vput l.length ++ l,true) else ([],false)
def idTake (l:List UInt8) (p:Int):List UInt8 × Nat × Nat :=
 if (vtake l p 16).2.2 ≠ 0 then ([],0,(vtake l p 16).2.2) else if idIs (vtake l p 16).1=true then vtake l p 16 else ([],0,3)

theorem inOk_lt {b:UInt8} (h:inOk b=true):b.toNat < 128:=by
 simp [inOk,lcOk,dgOk] at h
 omega

theorem idIs_parts {l:List UInt8} (h:idIs l=true):1≤l.length∧l.length≤16∧lcOk (l.getD 0 0)=true∧l.all inOk=true:=by
 unfold idIs at h
 simp only [Bool.and_eq_true,decide_eq_true_eq] at h
 exact⟨h.1,h.2.1,h.2.2.1,h.2.2.2⟩

theorem idIs_mk {l:List UInt8} (h1:1≤l.length) (h2:l.length≤16) (h3:lcOk (l.getD 0 0)=true) (h4:l.all inOk=true):idIs l=true:=by
 unfold idIs
 simp only [Bool.and_eq_true,decide_eq_true_eq]
 exact⟨h1,h2,h3,h4⟩

theorem idIs_long {l:List UInt8} (h:16 < l.length):idIs l=false:=by
 rw [Bool.eq_false_iff]
 intro h'
 have:=(idIs_parts h').2.1
 omega

theorem idIs_high {l:List UInt8} {b:UInt8} (hb:b ∈ l) (h:128≤b.toNat):idIs l=false:=by
 rw [Bool.eq_false_iff]
 intro h'
 have:=inOk_lt (List.all_eq_true.1 (idIs_parts h').2.2.2 b hb)
 omega

/-! ### The order of names -/

def idCmp (a b:List UInt8):Int:=if a.length < b.length then -1 else if b.length < a.length then 1 else compareBytes a b

def idLess (a b:List UInt8):Bool:=decide (idCmp a b < 0)

theorem cb_swap:∀ a b:List UInt8,compareBytes b a=- compareBytes a b
 | [],[] => rfl
 | [],_ :: _ => rfl
 | _ :: _,[] => rfl
 | a :: xs,b :: ys => by
  unfold compareBytes
  by_cases h1:a < b
  ·have h2:¬ b < a:=fun h => by rw [UInt8.lt_iff_toNat_lt] at *; omega
   rw [if_pos h1,if_neg h2,if_pos h1]; rfl
  ·rw [if_neg h1]
   by_cases h2:b < a
   ·rw [if_pos h2,if_neg h1,if_pos h2]
   ·rw [if_neg h2,if_neg h2,if_neg h1]
    exact cb_swap xs ys

theorem cb_zero:∀ {a b:List UInt8},compareBytes a b=0→a=b
 | [],[],_ => rfl
 | [],_ :: _,h => by simp [compareBytes] at h
 | _ :: _,[],h => by simp [compareBytes] at h
 | a :: xs,b :: ys,h => by
  unfold compareBytes at h
  by_cases h1:a < b
  ·rw [if_pos h1] at h; simp at h
  ·rw [if_neg h1] at h
   by_cases h2:b < a
   ·rw [if_pos h2] at h; simp at h
   ·rw [if_neg h2] at h
    have e:a=b:=by
     rw [UInt8.lt_iff_toNat_lt] at h1 h2
     exact UInt8.toNat_inj.1 (by omega)
    rw [e,cb_zero h]

theorem cb_self:∀ a:List UInt8,compareBytes a a=0
 | [] => rfl
 | a :: xs => by
  unfold compareBytes
  have h:¬ a < a:=fun h => by rw [UInt8.lt_iff_toNat_lt] at h; omega
  rw [if_neg h,if_neg h]
  exact cb_self xs

theorem cb_trans:∀ {a b c:List UInt8},compareBytes a b≤0→compareBytes b c≤0→compareBytes a c≤0∧(compareBytes a b < 0∨compareBytes b c < 0→compareBytes a c < 0)
 | [],[],c,_,h2 => ⟨h2,fun h => by
   rcases h with h | h
   ·simp [compareBytes] at h
   ·exact h⟩
 | [],_ :: _,[],_,h2 => by simp [compareBytes] at h2
 | [],_ :: _,_ :: _,_,_ => by simp [compareBytes]
 | _ :: _,[],_,h1,_ => by simp [compareBytes] at h1
 | _ :: _,_ :: _,[],_,h2 => by simp [compareBytes] at h2
 | a :: xs,b :: ys,c :: zs,h1,h2 => by
  unfold compareBytes at h1 h2 ⊢
  simp only [UInt8.lt_iff_toNat_lt] at h1 h2 ⊢
  by_cases p1:a.toNat < b.toNat
  ·by_cases p2:b.toNat < c.toNat
   ·rw [if_pos (show a.toNat < c.toNat by omega)]; simp
   ·rw [if_neg p2] at h2
    by_cases p3:c.toNat < b.toNat
    ·rw [if_pos p3] at h2; simp at h2
    ·rw [if_pos (show a.toNat < c.toNat by omega)]; simp
  ·rw [if_neg p1] at h1 ⊢
   by_cases p2:b.toNat < a.toNat
   ·rw [if_pos p2] at h1; simp at h1
   ·rw [if_neg p2] at h1 ⊢
    by_cases p3:b.toNat < c.toNat
    ·rw [if_pos (show a.toNat < c.toNat by omega)]; simp
    ·rw [if_neg p3] at h2 ⊢
     by_cases p4:c.toNat < b.toNat
     ·rw [if_pos p4] at h2; simp at h2
     ·rw [if_neg p4] at h2 ⊢
      rw [if_neg (show ¬ a.toNat < c.toNat by omega),if_neg (show ¬ c.toNat < a.toNat by omega)]
      exact cb_trans h1 h2

theorem idCmp_swap (a b:List UInt8):idCmp b a=- idCmp a b:=by
 unfold idCmp
 by_cases h1:a.length < b.length
 ·rw [if_neg (by omega),if_pos h1,if_pos h1]; rfl
 ·by_cases h2:b.length < a.length
  ·rw [if_pos h2,if_neg h1,if_pos h2]
  ·rw [if_neg h2,if_neg h1,if_neg h1,if_neg h2]
   exact cb_swap a b

theorem idCmp_zero {a b:List UInt8} (h:idCmp a b=0):a=b:=by
 unfold idCmp at h
 by_cases h1:a.length < b.length
 ·rw [if_pos h1] at h; simp at h
 ·rw [if_neg h1] at h
  by_cases h2:b.length < a.length
  ·rw [if_pos h2] at h; simp at h
  ·rw [if_neg h2] at h
   exact cb_zero h

theorem idCmp_self (a:List UInt8):idCmp a a=0:=by
 unfold idCmp
 rw [if_neg (by omega),if_neg (by omega)]
 exact cb_self a

theorem idCmp_trans {a b c:List UInt8} (h1:idCmp a b≤0) (h2:idCmp b c≤0):idCmp a c≤0∧(idCmp a b < 0∨idCmp b c < 0→idCmp a c < 0):=by
 unfold idCmp at h1 h2 ⊢
 by_cases p1:a.length < b.length
 ·by_cases p3:c.length < b.length
  ·rw [if_neg (by omega),if_pos p3] at h2; simp at h2
  ·rw [if_pos (show a.length < c.length by omega)]; simp
 ·rw [if_neg p1] at h1 ⊢
  by_cases p2:b.length < a.length
  ·rw [if_pos p2] at h1; simp at h1
  ·rw [if_neg p2] at h1 ⊢
   by_cases p3:b.length < c.length
   ·rw [if_pos (show a.length < c.length by omega)]; simp
   ·rw [if_neg p3] at h2 ⊢
    by_cases p4:c.length < b.length
    ·rw [if_pos p4] at h2; simp at h2
    ·rw [if_neg p4] at h2 ⊢
     rw [if_neg (show ¬ a.length < c.length by omega),if_neg (show ¬ c.length < a.length by omega)]
     exact cb_trans h1 h2

theorem idLess_trans {a b c:List UInt8} (h1:idLess a b=true) (h2:idLess b c=true):idLess a c=true:=by
 unfold idLess at *
 simp only [decide_eq_true_eq] at *
 exact (idCmp_trans (by omega) (by omega)).2 (.inl h1)

theorem idLess_irrefl (a:List UInt8):idLess a a=false:=by
 unfold idLess
 rw [idCmp_self]
 rfl

theorem idLess_tri (a b:List UInt8):(idLess a b=true∧idLess b a=false∧¬ a=b)∨(idLess a b=false∧idLess b a=true∧¬ a=b)∨(idLess a b=false∧idLess b a=false∧a=b):=by
 have hs:=idCmp_swap a b
 by_cases h0:idCmp a b=0
 ·have e:=idCmp_zero h0
  subst e
  exact .inr (.inr ⟨idLess_irrefl _,idLess_irrefl _,rfl⟩)
 ·have hne:¬ a=b:=fun e => h0 (by rw [e]; exact idCmp_self b)
  unfold idLess
  by_cases h:idCmp a b < 0
  ·exact .inl ⟨by simpa using h,by simp; omega,hne⟩
  ·exact .inr (.inl ⟨by simpa using h,by simp; omega,hne⟩)

theorem idSWO:SWO (ltOf idCmp) where
 irrefl x:=idLess_irrefl x
 trans x y z h1 h2:=idLess_trans h1 h2
 ntrans x y z h1 h2:=by
  unfold ltOf at *
  have s1:=idCmp_swap x y
  have s2:=idCmp_swap y z
  have s3:=idCmp_swap x z
  simp only [decide_eq_false_iff_not] at *
  have:=(idCmp_trans (a:=z) (b:=y) (c:=x) (by omega) (by omega)).1
  omega

theorem idTot (x y:List UInt8) (h1:ltOf idCmp x y=false) (h2:ltOf idCmp y x=false):x=y:=by
 have s:=idCmp_swap x y
 unfold ltOf at h1 h2
 simp only [decide_eq_false_iff_not] at h1 h2
 exact idCmp_zero (by omega)

theorem bytesLess_cb:∀ a b:List UInt8,Op.bytesLess a b=decide (compareBytes a b < 0)
 | [],[] => rfl
 | [],_ :: _ => rfl
 | _ :: _,[] => rfl
 | a :: xs,b :: ys => by
  unfold Op.bytesLess compareBytes
  by_cases h1:a < b
  ·simp [h1]
  ·by_cases h2:b < a
   ·have:¬ a=b:=fun e => h1 (by rw [e] at h2 ⊢; exact h2)
    simp [h1,h2,this]
   ·have e:a=b:=by
     rw [UInt8.lt_iff_toNat_lt] at h1 h2
     exact UInt8.toNat_inj.1 (by omega)
    rw [if_neg h1,if_neg h2]
    subst e
    simp [bytesLess_cb xs ys]

theorem idLess_doc (a b:List UInt8):idLess a b=(decide (a.length < b.length) || (decide (a.length=b.length) && Op.bytesLess a b)):=by
 unfold idLess idCmp
 rw [bytesLess_cb]
 by_cases h1:a.length < b.length
 ·simp [h1]
 ·by_cases h2:b.length < a.length
  ·have:¬ a.length=b.length:=by omega
   rw [if_neg h1,if_pos h2]
   simp [h1,this]
  ·have:a.length=b.length:=by omega
   rw [if_neg h1,if_neg h2]
   simp [this]

/-! ### Lists merged -/

def Rising (l:List (List UInt8)):Prop:=l.Pairwise fun x y => idLess x y=true

theorem rising_unique:∀ {a b:List (List UInt8)},Rising a→Rising b→(∀ x,x ∈ a ↔ x ∈ b)→a=b
 | [],[],_,_,_ => rfl
 | [],y :: b,_,_,h => by have:=(h y).2 (by simp); simp at this
 | x :: a,[],_,_,h => by have:=(h x).1 (by simp); simp at this
 | x :: a,y :: b,ha,hb,h => by
  obtain⟨ha1,ha2⟩:=List.pairwise_cons.1 ha
  obtain⟨hb1,hb2⟩:=List.pairwise_cons.1 hb
  have e:x=y:=by
   have h1:=(h x).1 (by simp)
   have h2:=(h y).2 (by simp)
   rcases List.mem_cons.1 h1 with e | h1
   ·exact e
   ·rcases List.mem_cons.1 h2 with e | h2
    ·exact e.symm
    ·have p:=hb1 x h1
     have q:=ha1 y h2
     have:=idLess_trans p q
     rw [idLess_irrefl] at this
     cases this
  subst e
  have hx:∀ {l:List (List UInt8)},(∀ z ∈ l,idLess x z=true)→x ∉ l:=fun hl hm => by
   have:=hl x hm
   rw [idLess_irrefl] at this
   cases this
  have:a=b:=rising_unique ha2 hb2 (fun z => by
   have hz:=h z
   simp only [List.mem_cons] at hz
   constructor
   ·intro hm
    rcases hz.1 (.inr hm) with e | h'
    ·subst e; exact absurd hm (hx ha1)
    ·exact h'
   ·intro hm
    rcases hz.2 (.inr hm) with e | h'
    ·subst e; exact absurd hm (hx hb1)
    ·exact h')
  rw [this]

def ins (x:List UInt8):List (List UInt8)→List (List UInt8)
 | [] => [x]
 | y :: l => if idLess y x=true then y :: ins x l else if y=x then y :: l else x :: y :: l

def mrg (a:List (List UInt8)):List (List UInt8):=a.foldl (fun out x => ins x out) []

theorem ins_mem (x z:List UInt8):∀ l,z ∈ ins x l ↔ z=x∨z ∈ l
 | [] => by simp [ins]
 | y :: l => by
  unfold ins
  by_cases h:idLess y x=true
  ·rw [if_pos h]
   simp only [List.mem_cons,ins_mem x z l]
   constructor
   ·rintro (h | h | h) <;> simp [h]
   ·rintro (h | h | h) <;> simp [h]
  ·rw [if_neg h]
   by_cases e:y=x
   ·rw [if_pos e]
    subst e
    simp only [List.mem_cons]
    constructor
    ·intro h; exact .inr h
    ·rintro (h | h)
     ·exact .inl h
     ·exact h
   ·rw [if_neg e]
    simp only [List.mem_cons]

theorem ins_rising (x:List UInt8):∀ l,Rising l→Rising (ins x l)
 | [],_ => by simp [ins,Rising]
 | y :: l,h => by
  obtain⟨h1,h2⟩:=List.pairwise_cons.1 h
  unfold ins
  by_cases hl:idLess y x=true
  ·rw [if_pos hl]
   refine List.pairwise_cons.2 ⟨fun z hz => ?_,ins_rising x l h2⟩
   rcases (ins_mem x z l).1 hz with e | hz
   ·subst e; exact hl
   ·exact h1 z hz
  ·rw [if_neg hl]
   by_cases e:y=x
   ·rw [if_pos e]; exact h
   ·rw [if_neg e]
    have hxy:idLess x y=true:=by
     rcases idLess_tri y x with ⟨p,_,_⟩ | ⟨_,p,_⟩ | ⟨_,_,p⟩
     ·exact absurd p hl
     ·exact p
     ·exact absurd p e
    refine List.pairwise_cons.2 ⟨fun z hz => ?_,h⟩
    rcases List.mem_cons.1 hz with e | hz
    ·subst e; exact hxy
    ·exact idLess_trans hxy (h1 z hz)

theorem foldl_ins (l:List (List UInt8)):∀ acc,Rising acc→Rising (l.foldl (fun out x => ins x out) acc)∧∀ z,z ∈ l.foldl (fun out x => ins x out) acc ↔ z ∈ acc∨z ∈ l:=by
 induction l with
 | nil => intro acc h; exact⟨h,fun z => by simp⟩
 | cons x l ih =>
  intro acc h
  have:=ih (ins x acc) (ins_rising x acc h)
  refine ⟨this.1,fun z => ?_⟩
  rw [List.foldl_cons,this.2 z,ins_mem]
  simp only [List.mem_cons]
  constructor
  ·rintro ((h | h) | h) <;> simp [h]
  ·rintro (h | h | h) <;> simp [h]

theorem mrg_rising (l:List (List UInt8)):Rising (mrg l):=(foldl_ins l [] (by simp [Rising])).1
theorem mrg_mem (l:List (List UInt8)) (z:List UInt8):z ∈ mrg l ↔ z ∈ l:=by
 have:=(foldl_ins l [] (by simp [Rising])).2 z
 unfold mrg
 simpa using this

theorem mrg_unique {a l:List (List UInt8)} (h:Rising a) (hm:∀ x,x ∈ a ↔ x ∈ l):a=mrg l:=rising_unique h (mrg_rising l) (fun x => (hm x).trans (mrg_mem l x).symm)

theorem compact_rising (d:Array (List UInt8)) (hs:d.toList.Pairwise fun x y => idLess y x=false):Rising (compactUpTo d d.size)∧∀ x,x ∈ compactUpTo d d.size ↔ x ∈ d.toList:=by
 have key:∀ m,m≤d.size→Rising (compactUpTo d m)∧(∀ x,x ∈ compactUpTo d m ↔ ∃ j,j < m∧d[j]! = x):=by
  intro m
  induction m with
  | zero => intro _; exact⟨by simp [compactUpTo,Rising],fun x => by simp [compactUpTo]⟩
  | succ m ih =>
   intro hm
   obtain⟨h1,h2⟩:=ih (by omega)
   have e:compactUpTo d (m+1)=compactUpTo d m ++ if keeps d m=true then [d[m]!] else []:=by
    unfold compactUpTo
    rw [List.range_succ,List.filter_append,List.map_append]
    by_cases hk:keeps d m=true <;> simp [hk]
   have hle:∀ i j,i≤j→j < d.size→idLess d[j]! d[i]! = false:=by
    intro i j hij hj
    by_cases e:i=j
    ·subst e; exact idLess_irrefl _
    ·have:=List.pairwise_iff_getElem.1 hs i j (by simpa using (by omega:i < d.size)) (by simpa using hj) (by omega)
     rw [getElem!_pos d i (by omega),getElem!_pos d j hj]
     simpa using this
   by_cases hk:keeps d m=true
   ·rw [e,if_pos hk]
    have hlt:∀ i,i < m→idLess d[i]! d[m]! = true:=by
     intro i hi
     have hm0:¬ m=0:=by omega
     have hne:d[m]! ≠ d[m - 1]!:=by
      unfold keeps at hk
      simp only [decide_eq_true_eq] at hk
      rcases hk with h | h
      ·exact absurd h hm0
      ·exact h
     have a:=hle i (m - 1) (by omega) (by omega)
     have b:=hle (m - 1) m (by omega) (by omega)
     have c:=hle i m (by omega) (by omega)
     rcases idLess_tri d[i]! d[m]! with ⟨p,_,_⟩ | ⟨_,p,_⟩ | ⟨_,_,p⟩
     ·exact p
     ·rw [c] at p; cases p
     ·exfalso
      rcases idLess_tri d[m - 1]! d[m]! with ⟨q,_,_⟩ | ⟨_,q,_⟩ | ⟨_,_,q⟩
      ·rw [← p,a] at q; cases q
      ·rw [b] at q; cases q
      ·exact hne q.symm
    refine ⟨List.pairwise_append.2 ⟨h1,by simp,fun x hx y hy => ?_⟩,fun x => ?_⟩
    ·obtain⟨j,hj,rfl⟩:=(h2 x).1 hx
     simp only [List.mem_singleton] at hy
     subst hy
     exact hlt j hj
    ·rw [List.mem_append,h2 x]
     simp only [List.mem_singleton]
     constructor
     ·rintro (⟨j,hj,h⟩ | h)
      ·exact⟨j,by omega,h⟩
      ·exact⟨m,by omega,h.symm⟩
     ·rintro ⟨j,hj,h⟩
      by_cases hjm:j=m
      ·subst hjm; exact .inr h.symm
      ·exact .inl ⟨j,by omega,h⟩
   ·rw [e,if_neg hk,List.append_nil]
    refine ⟨h1,fun x => ?_⟩
    rw [h2 x]
    have hm0:¬ m=0∧d[m]! = d[m - 1]!:=by
     unfold keeps at hk
     simp only [decide_eq_true_eq,not_or,ne_eq,Decidable.not_not] at hk
     exact hk
    constructor
    ·rintro ⟨j,hj,h⟩
     exact⟨j,by omega,h⟩
    ·rintro ⟨j,hj,h⟩
     by_cases hjm:j=m
     ·subst hjm; exact⟨j - 1,by omega,by rw [← hm0.2]; exact h⟩
     ·exact⟨j,by omega,h⟩
 obtain⟨h1,h2⟩:=key d.size (Nat.le_refl _)
 refine ⟨h1,fun x => ?_⟩
 rw [h2 x]
 constructor
 ·rintro ⟨j,hj,rfl⟩
  rw [getElem!_pos d j hj]
  simp
 ·intro hx
  obtain⟨j,hj,h⟩:=List.mem_iff_getElem.1 hx
  have hj':j < d.size:=by simpa using hj
  exact⟨j,hj',by rw [getElem!_pos d j hj']; simpa using h⟩

theorem sort_compact (l:List (List UInt8)):compactUpTo (l.mergeSort fun x y => !(ltOf idCmp) y x).toArray (l.mergeSort fun x y => !(ltOf idCmp) y x).toArray.size=mrg l:=by
 have hp:(l.mergeSort fun x y => !(ltOf idCmp) y x).Pairwise fun x y => (!(ltOf idCmp) y x)=true:=by
  apply List.pairwise_mergeSort
  ·intro a b c h1 h2
   simp only [Bool.not_eq_true'] at *
   exact idSWO.ntrans _ _ _ h2 h1
  ·intro a b
   simp only [Bool.or_eq_true,Bool.not_eq_true']
   rcases idLess_tri a b with ⟨_,p,_⟩ | ⟨p,_,_⟩ | ⟨p,_,_⟩
   ·exact .inl p
   ·exact .inr p
   ·exact .inr p
 have h:=compact_rising (l.mergeSort fun x y => !(ltOf idCmp) y x).toArray (by
  refine List.Pairwise.imp (fun {x y} h => ?_) hp
  show ltOf idCmp y x=false
  simpa using h)
 exact mrg_unique h.1 (fun x => by rw [h.2 x]; simp)
end
section

structure Val where
 sh:Int
 pr:Int
 si:Int
 st:List UInt8

def Val.zero:Val:=⟨0,0,0,[]⟩

def chOk (b:UInt8):Bool:=decide (32≤b.toNat) && decide (b.toNat≤126)

def stOk (l:List UInt8):Bool:=decide (l.length≤32) && l.all chOk

def numsOk (a b c:Int):Bool:=decide (1≤a∧a≤4∧-128≤b∧b≤127∧0≤c∧c≤1099511627776)

def vaMay (v:Val):Bool:=numsOk v.sh v.pr v.si && stOk v.st

def vaBytes (v:Val):List UInt8:=[u8of v.sh.toNat,u8of (v.pr+128).toNat] ++ (vput v.si.toNat ++ (vput v.st.length ++ v.st))

def vaTwo (l:List UInt8) (p:Int) (n:Nat) (t:List UInt8):Val:=⟨(l.getD p.toNat 0).toNat,(l.getD (p.toNat+1) 0).toNat - 128,n,t⟩

def vaTake (l:List UInt8) (p:Int):Val × Nat × Nat :=
 if p < 0∨(l.length:Int) < p then (Val.zero,0,1)
 else if (l.length:Int) - p < 2 then (Val.zero,0,2)
 else if (vget l (p+2)).2.2 ≠ 0 then (Val.zero,0,(vget l (p+2)).2.2)
 else if (vtake l (vget l (p+2)).2.1 32).2.2 ≠ 0 then (Val.zero,0,(vtake l (vget l (p+2)).2.1 32).2.2)
 else if vaMay (vaTwo l p (vget l (p+2)).1 (vtake l (vget l (p+2)).2.1 32).1)=false then (Val.zero,0,3)
 else (vaTwo l p (vget l (p+2)).1 (vtake l (vget l (p+2)).2.1 32).1,(vtake l (vget l (p+2)).2.1 32).2.1,0)

theorem vaMay_parts {v:Val} (h:vaMay v=true):1≤v.sh∧v.sh≤4∧-128≤v.pr∧v.pr≤127∧0≤v.si∧v.si≤1099511627776∧v.st.length≤32:=by
 unfold vaMay numsOk stOk at h
 simp at h
 omega

theorem vget_bytes {l:List UInt8} {p:Nat} {n f:Nat} (h:vget l p=(n,f,0)):p≤f∧f≤l.length∧vput n=(l.drop p).take (f - p):=by
 have hf:=vget_facts h
 have hp:=(hf.2.2 rfl).2
 have hle:p≤l.length:=by simp at hp; omega
 unfold vget at h
 rw [if_neg (by omega)] at h
 simp only [Int.toNat_natCast] at h hp
 by_cases he:(vgetF 0 (l.drop p)).2.2=0
 ·rw [if_pos he] at h
  simp only [Prod.mk.injEq] at h
  have:=vputF_vgetF (l.drop p) 9 0 rfl he
  refine ⟨by omega,hf.2.1,?_⟩
  rw [← h.1]
  unfold vput
  rw [this.1]
  congr 1
  omega
 ·rw [if_neg he] at h
  simp only [Prod.mk.injEq] at h
  exact absurd h.2.2 he

theorem vtake_bytes {l:List UInt8} {p:Nat} {m:Int} {t:List UInt8} {f:Nat} (h:vtake l p m=(t,f,0)):p≤f∧f≤l.length∧vput t.length ++ t=(l.drop p).take (f - p)∧(t.length:Int)≤m:=by
 obtain⟨n,g,e,hg⟩ : ∃ n g e,vget l p=(n,g,e):=⟨_,_,_,rfl⟩
 unfold vtake at h
 rw [hg] at h
 simp only at h
 by_cases he:e=0
 ·subst he
  rw [if_neg (by simp)] at h
  have hb:=vget_bytes hg
  by_cases h1:m < 0∨m < (n:Int)
  ·rw [if_pos h1] at h; simp at h
  ·rw [if_neg h1] at h
   by_cases h2:l.length - g < n
   ·rw [if_pos h2] at h; simp at h
   ·rw [if_neg h2] at h
    simp only [Prod.mk.injEq] at h
    obtain⟨rfl,rfl,_⟩:=h
    have hl:((l.drop g).take n).length=n:=by simp; omega
    refine ⟨by omega,by omega,?_,by rw [hl]; omega⟩
    rw [hl,hb.2.2]
    have e1:g+n - p=(g - p)+n:=by omega
    have e2:l.drop g=(l.drop p).drop (g - p):=by rw [List.drop_drop]; congr 1; omega
    rw [e1,e2,List.take_add]
 ·rw [if_pos he] at h
  simp only [Prod.mk.injEq] at h
  exact absurd h.2.2 he

theorem vaTake_put {v:Val} (hv:vaMay v=true) (a r:List UInt8):vaTake (a ++ (vaBytes v ++ r)) (a.length:Int)=(v,a.length+(vaBytes v).length,0):=by
 obtain⟨h1,h2,h3,h4,h5,h6,h7⟩:=vaMay_parts hv
 obtain⟨sh,pr,si,st⟩:=v
 simp only at h1 h2 h3 h4 h5 h6 h7
 obtain⟨n,rfl⟩:=Int.eq_ofNat_of_zero_le h5
 have e1:a ++ (vaBytes ⟨sh,pr,n,st⟩ ++ r)=(a ++ [u8of sh.toNat,u8of (pr+128).toNat]) ++ (vput n ++ (vput st.length ++ st ++ r)):=by
  simp [vaBytes]
 have e2:((a.length:Int)+2)=(((a ++ [u8of sh.toNat,u8of (pr+128).toNat]).length:Nat):Int):=by simp
 have g:=vget_vput n (by omega) (a ++ [u8of sh.toNat,u8of (pr+128).toNat]) (vput st.length ++ st ++ r)
 have e3:(a ++ [u8of sh.toNat,u8of (pr+128).toNat]).length+(vput n).length=((a ++ [u8of sh.toNat,u8of (pr+128).toNat]) ++ vput n).length:=(List.length_append ..).symm
 have t:=vtake_text ((a ++ [u8of sh.toNat,u8of (pr+128).toNat]) ++ vput n) st r 32 (by omega) (by omega)
 rw [List.append_assoc _ (vput n)] at t
 rw [e3] at g
 have b1:((a ++ [u8of sh.toNat,u8of (pr+128).toNat]) ++ (vput n ++ (vput st.length ++ st ++ r))).getD a.length 0=u8of sh.toNat:=by simp [List.getD]
 have b2:((a ++ [u8of sh.toNat,u8of (pr+128).toNat]) ++ (vput n ++ (vput st.length ++ st ++ r))).getD (a.length+1) 0=u8of (pr+128).toNat:=by
  have:a.length+1 - a.length=1:=by omega
  simp [List.getD,this]
 have htwo:vaTwo ((a ++ [u8of sh.toNat,u8of (pr+128).toNat]) ++ (vput n ++ (vput st.length ++ st ++ r))) a.length n st=⟨sh,pr,n,st⟩:=by
  unfold vaTwo
  simp only [Int.toNat_natCast]
  rw [b1,b2,u8of_toNat (by omega),u8of_toNat (by omega)]
  rw [show ((sh.toNat:Nat):Int)=sh by omega,show (((pr+128).toNat:Nat):Int) - 128=pr by omega]
 unfold vaTake
 rw [e1,if_neg (by simp; omega),if_neg (by simp; omega),e2,g]
 simp only [ne_eq,not_true_eq_false,if_false]
 rw [t]
 simp only [not_true_eq_false,if_false]
 rw [htwo,hv]
 simp only [Bool.true_eq_false,if_false]
 simp [vaBytes]
 omega

theorem vaPut_take {l:List UInt8} {p:Nat} {v:Val} {f:Nat} (h:vaTake l p=(v,f,0)):vaMay v=true∧p≤f∧f≤l.length∧vaBytes v=(l.drop p).take (f - p):=by
 unfold vaTake at h
 by_cases h1:(p:Int) < 0∨(l.length:Int) < p
 ·rw [if_pos h1] at h; simp at h
 rw [if_neg h1] at h
 by_cases h2:(l.length:Int) - p < 2
 ·rw [if_pos h2] at h; simp at h
 rw [if_neg h2] at h
 obtain⟨n,g,e,hg⟩ : ∃ n g e,vget l ((p:Int)+2)=(n,g,e):=⟨_,_,_,rfl⟩
 rw [hg] at h
 simp only at h
 by_cases he:e=0
 ·subst he
  simp only [ne_eq,not_true_eq_false,if_false] at h
  obtain⟨t,k,e',ht⟩ : ∃ t k e',vtake l g 32=(t,k,e'):=⟨_,_,_,rfl⟩
  rw [ht] at h
  simp only at h
  by_cases he':e'=0
  ·subst he'
   simp only [not_true_eq_false,if_false] at h
   by_cases hm:vaMay (vaTwo l p n t)=false
   ·rw [if_pos hm] at h; simp at h
   ·rw [if_neg hm] at h
    simp only [Prod.mk.injEq] at h
    obtain⟨rfl,rfl,_⟩:=h
    have hg':vget l ((p+2:Nat):Int)=(n,g,0):=by rw [← hg]; rfl
    obtain⟨a1,a2,a3⟩:=vget_bytes hg'
    obtain⟨b1,b2,b3,b4⟩:=vtake_bytes ht
    refine ⟨by simpa using hm,by omega,b2,?_⟩
    unfold vaBytes vaTwo
    simp only [Int.toNat_natCast]
    rw [show ((((l.getD (p+1) 0).toNat:Nat):Int) - 128+128).toNat=(l.getD (p+1) 0).toNat by omega,u8of_of_toNat,u8of_of_toNat,a3,b3]
    have e1:k - p=2+((g - (p+2))+(k - g)):=by omega
    have e2:(l.drop p).take 2=[l.getD p 0,l.getD (p+1) 0]:=by
     rw [List.drop_eq_getElem_cons (show p < l.length by omega),List.drop_eq_getElem_cons (show p+1 < l.length by omega)]
     rw [show l.getD p 0=l[p]'(by omega) by simp [List.getD,List.getElem?_eq_getElem (show p < l.length by omega)],show l.getD (p+1) 0=l[p+1]'(by omega) by simp [List.getD,List.getElem?_eq_getElem (show p+1 < l.length by omega)]]
     rfl
    rw [e1,List.take_add,e2,List.take_add,List.drop_drop,List.drop_drop]
    congr 4
    omega
  ·rw [if_pos he'] at h
   simp only [Prod.mk.injEq] at h
   exact absurd h.2.2 he'
 ·rw [if_pos he] at h
  simp only [Prod.mk.injEq] at h
  exact absurd h.2.2 he

theorem vput_small_len {n:Nat} (h:n < 128):(vput n).length=1:=by rw [vput_lt h]; rfl

theorem vaBytes_len {v:Val} (hv:vaMay v=true):(vaBytes v).length=3+(vput v.si.toNat).length+v.st.length:=by
 have h:=(vaMay_parts hv).2.2.2.2.2.2
 have:=vput_small_len (show v.st.length < 128 by omega)
 unfold vaBytes
 simp only [List.length_append,List.length_cons,List.length_nil]
 omega

def shows:List (List UInt8):=[[111,102,102],[103,111,110,101],[97,119,97,121],[98,117,115,121],[111,110,108,105,110,101]]

def vaSay (n:Int):List UInt8 × Bool:=if n < 0∨4 < n then ([],false) else (shows.getD n.toNat [],true)

def vaHear (l:List UInt8):Nat × Bool :=
 if l=[111,102,102] then (0,true) else if l=[103,111,110,101] then (1,true) else if l=[97,119,97,121] then (2,true)
 else if l=[98,117,115,121] then (3,true) else if l=[111,110,108,105,110,101] then (4,true) else (0,false)

def vaEq (x y:Val):Bool:=(x.sh == y.sh && (x.pr == y.pr && (x.si == y.si && x.st == y.st)))
end
section

structure Row where
 c:List UInt8
 v:Val

def Row.zero:Row:=⟨[],Val.zero⟩

structure Chg where
 c:List UInt8
 on:Bool
 v:Val

def vSame (x y:Val):Bool:=(x.sh == y.sh && (x.pr == y.pr && (x.si == y.si && x.st == y.st)))

theorem vSame_iff {x y:Val}:vSame x y=true ↔ x=y:=by
 obtain⟨a,b,c,s⟩:=x
 obtain⟨a',b',c',s'⟩:=y
 simp [vSame]

theorem vSame_self (x:Val):vSame x x=true:=vSame_iff.2 rfl
def rSame (x y:Row):Bool:=(x.c == y.c) && vSame x.v y.v

theorem rSame_iff {x y:Row}:rSame x y=true ↔ x=y:=by
 obtain⟨a,b⟩:=x
 obtain⟨a',b'⟩:=y
 simp [rSame,vSame_iff]

theorem rSame_self (x:Row):rSame x x=true:=rSame_iff.2 rfl
def cSame (x y:Chg):Bool:=(x.c == y.c) && ((x.on == y.on) && vSame x.v y.v)

theorem cSame_iff {x y:Chg}:cSame x y=true ↔ x=y:=by
 obtain⟨a,o,b⟩:=x
 obtain⟨a',o',b'⟩:=y
 simp [cSame,vSame_iff]

theorem cSame_self (x:Chg):cSame x x=true:=cSame_iff.2 rfl

theorem row_get {t:List Row} {k:Nat} (h:k < t.length):t[k]=t.getD k Row.zero:=by simp [List.getD,List.getElem?_eq_getElem h]

def tSame (a b:List Row):Bool:=decide (a.length=b.length) && (List.range a.length).all fun i => rSame (a.getD i Row.zero) (b.getD i Row.zero)

theorem tSame_iff {a b:List Row}:tSame a b=true ↔ a=b:=by
 constructor
 ·intro h
  unfold tSame at h
  simp only [Bool.and_eq_true,decide_eq_true_eq] at h
  obtain⟨h1,h2⟩:=h
  refine List.ext_getElem h1 fun i p q => ?_
  have:=List.all_eq_true.1 h2 i (List.mem_range.2 p)
  rw [row_get p,row_get q]
  exact rSame_iff.1 this
 ·intro h
  subst h
  unfold tSame
  simp [rSame_self]

theorem tSame_len {a b:List Row} (h:¬ a.length=b.length):tSame a b=false:=by
 unfold tSame
 simp [h]

theorem tSame_off {a b:List Row} {k:Nat} (_hk:k < a.length) (h:rSame (a.getD k Row.zero) (b.getD k Row.zero)=false):tSame a b=false:=by
 rw [Bool.eq_false_iff]
 intro h'
 rw [tSame_iff] at h'
 subst h'
 rw [rSame_self] at h
 cases h

theorem tSame_on {a b:List Row} (hl:a.length=b.length) (h:(List.range a.length).all (fun i => rSame (a.getD i Row.zero) (b.getD i Row.zero))=true):tSame a b=true:=by
 unfold tSame
 rw [h]
 simp [hl]

theorem range_all_succ {k:Nat} {f:Nat→Bool} (h:(List.range k).all f=true) (hk:f k=true):(List.range (k+1)).all f=true:=by
 rw [List.range_succ,List.all_append,h]
 simp [hk]

theorem range_all_no {n k:Nat} {f:Nat→Bool} (hk:k < n) (h:f k=false):(List.range n).all f=false:=by
 rw [Bool.eq_false_iff]
 intro h'
 have:=List.all_eq_true.1 h' k (List.mem_range.2 hk)
 rw [h] at this
 cases this

/-! ### What may be -/

def rowOk (r:Row):Bool:=idIs r.c && vaMay r.v

def rowAt (t:List Row) (j:Nat):Bool:=rowOk (t.getD j Row.zero) && (decide (j=0) || idLess (t.getD (j - 1) Row.zero).c (t.getD j Row.zero).c)

def diMay (t:List Row):Bool:=decide (t.length≤32) && (List.range t.length).all (rowAt t)

def RRise (t:List Row):Prop:=t.Pairwise fun x y => idLess x.c y.c=true

theorem diMay_long {t:List Row} (h:32 < t.length):diMay t=false:=by
 unfold diMay
 simp
 omega

theorem diMay_iff {t:List Row}:diMay t=true ↔ t.length≤32∧(∀ r ∈ t,rowOk r=true)∧RRise t:=by
 unfold diMay
 simp only [Bool.and_eq_true,decide_eq_true_eq,List.all_eq_true,List.mem_range]
 constructor
 ·rintro ⟨h1,h2⟩
  refine ⟨h1,?_,?_⟩
  ·intro r hr
   obtain⟨k,hk,rfl⟩:=List.getElem_of_mem hr
   have:=h2 k hk
   unfold rowAt at this
   rw [← row_get hk] at this
   simp only [Bool.and_eq_true] at this
   exact this.1
  ·have key:∀ d i,i+d+1 < t.length→idLess (t.getD i Row.zero).c (t.getD (i+d+1) Row.zero).c=true:=by
    intro d
    induction d with
    | zero =>
     intro i hi
     have:=h2 (i+1) (by omega)
     unfold rowAt at this
     simp only [Bool.and_eq_true] at this
     simpa using this.2
    | succ d ih =>
     intro i hi
     have a:=ih i (by omega)
     have:=h2 (i+d+1+1) (by omega)
     unfold rowAt at this
     simp only [Bool.and_eq_true] at this
     have b:idLess (t.getD (i+d+1) Row.zero).c (t.getD (i+d+1+1) Row.zero).c=true:=by simpa using this.2
     exact idLess_trans a b
   refine List.pairwise_iff_getElem.2 fun i j hi hj hij => ?_
   rw [row_get hi,row_get hj]
   have:=key (j - i - 1) i (by omega)
   rwa [show i+(j - i - 1)+1=j by omega] at this
 ·rintro ⟨h1,h2,h3⟩
  refine ⟨h1,fun k hk => ?_⟩
  unfold rowAt
  rw [← row_get hk,h2 _ (List.getElem_mem hk)]
  simp only [Bool.true_and,Bool.or_eq_true,decide_eq_true_eq]
  by_cases h0:k=0
  ·exact .inl h0
  ·right
   have:=List.pairwise_iff_getElem.1 h3 (k - 1) k (by omega) hk (by omega)
   rwa [row_get (show k - 1 < t.length by omega)] at this

theorem rowOk_parts {r:Row} (h:rowOk r=true):idIs r.c=true∧vaMay r.v=true:=by
 unfold rowOk at h
 simpa using h

/-! ### Bytes -/

def rowBytes (r:Row):List UInt8:=(vput r.c.length ++ r.c) ++ vaBytes r.v
def rowsBytes (t:List Row):List UInt8:=(t.map rowBytes).flatten
def diBytes (t:List Row):List UInt8:=vput t.length ++ rowsBytes t
def diPut (t:List Row):List UInt8 × Bool:=if diMay t=true then (diBytes t,true) else ([],false)

theorem rowsBytes_cons (r:Row) (t:List Row):rowsBytes (r :: t)=rowBytes r ++ rowsBytes t:=rfl

theorem rowsBytes_succ {t:List Row} {k:Nat} (h:k < t.length):rowsBytes (t.take (k+1))=rowsBytes (t.take k) ++ rowBytes (t.getD k Row.zero):=by
 unfold rowsBytes
 rw [List.take_succ_eq_append_getElem h,row_get h]
 simp

theorem rowBytes_len {r:Row} (h:rowOk r=true):(rowBytes r).length≤62∧5≤(rowBytes r).length:=by
 obtain⟨h1,h2⟩:=rowOk_parts h
 have a:=(idIs_parts h1).2.1
 have a1:=(idIs_parts h1).1
 have b:=vaBytes_len h2
 have c:=(vaMay_parts h2)
 have d:=vput_small_len (show r.c.length < 128 by omega)
 have e:(vput r.v.si.toNat).length≤10:=vput_len_le _
 have e1:=vput_len_pos r.v.si.toNat
 unfold rowBytes
 simp only [List.length_append]
 omega

theorem rowsBytes_len:∀ {t:List Row},(∀ r ∈ t,rowOk r=true)→(rowsBytes t).length≤62 * t.length
 | [],_ => by simp [rowsBytes]
 | r :: t,h => by
  have a:=(rowBytes_len (h r (by simp))).1
  have b:=rowsBytes_len (t:=t) (fun x hx => h x (by simp [hx]))
  rw [rowsBytes_cons,List.length_append,List.length_cons]
  omega

theorem diBytes_len {t:List Row} (h:diMay t=true):(diBytes t).length≤1985:=by
 obtain⟨h1,h2,_⟩:=diMay_iff.1 h
 have a:=rowsBytes_len h2
 have b:=vput_small_len (show t.length < 128 by omega)
 unfold diBytes
 rw [List.length_append]
 omega

theorem diPut_len (t:List Row):(diPut t).1.length≤1985:=by
 unfold diPut
 by_cases h:diMay t=true
 ·rw [if_pos h]; exact diBytes_len h
 ·rw [if_neg h]; simp

def diTakeRow (l:List UInt8) (p:Nat):Row × Nat × Nat :=
 if (idTake l p).2.2 ≠ 0 then (Row.zero,0,(idTake l p).2.2)
 else if (vaTake l (idTake l p).2.1).2.2 ≠ 0 then (Row.zero,0,(vaTake l (idTake l p).2.1).2.2)
 else (⟨(idTake l p).1,(vaTake l (idTake l p).2.1).1⟩,(vaTake l (idTake l p).2.1).2.1,0)

def diRows:Nat→List UInt8→Nat→List Row × Nat × Nat
 | 0,_,p => ([],p,0)
 | n+1,l,p =>
  if (diTakeRow l p).2.2 ≠ 0 then ([],0,(diTakeRow l p).2.2)
  else if (diRows n l (diTakeRow l p).2.1).2.2 ≠ 0 then ([],0,(diRows n l (diTakeRow l p).2.1).2.2)
  else ((diTakeRow l p).1 :: (diRows n l (diTakeRow l p).2.1).1,(diRows n l (diTakeRow l p).2.1).2.1,0)

def diTake (l:List UInt8) (p:Int):List Row × Nat × Nat :=
 if (vget l p).2.2 ≠ 0 then ([],0,(vget l p).2.2)
 else if 32 < (vget l p).1 then ([],0,3)
 else if (diRows (vget l p).1 l (vget l p).2.1).2.2 ≠ 0 then ([],0,(diRows (vget l p).1 l (vget l p).2.1).2.2)
 else if diMay (diRows (vget l p).1 l (vget l p).2.1).1=false then ([],0,3)
 else ((diRows (vget l p).1 l (vget l p).2.1).1,(diRows (vget l p).1 l (vget l p).2.1).2.1,0)

def diComb (acc:List Row) (r:List Row × Nat × Nat):List Row × Nat × Nat:=if r.2.2 ≠ 0 then ([],0,r.2.2) else (acc ++ r.1,r.2.1,0)

theorem diRows_shape:∀ (n:Nat) (l:List UInt8) (p:Nat),(diRows n l p).2.2=0∨diRows n l p=([],0,(diRows n l p).2.2)
 | 0,l,p => .inl rfl
 | n+1,l,p => by
  unfold diRows
  by_cases h1:(diTakeRow l p).2.2 ≠ 0
  ·rw [if_pos h1]; exact .inr rfl
  ·rw [if_neg h1]
   by_cases h2:(diRows n l (diTakeRow l p).2.1).2.2 ≠ 0
   ·rw [if_pos h2]; exact .inr rfl
   ·rw [if_neg h2]; exact .inl rfl

theorem diComb_start (n:Nat) (l:List UInt8) (p:Nat):diComb [] (diRows n l p)=diRows n l p:=by
 unfold diComb
 rcases diRows_shape n l p with h | h
 ·rw [if_neg (by rw [h]; simp)]
  exact Prod.ext rfl (Prod.ext rfl h.symm)
 ·by_cases h0:(diRows n l p).2.2 ≠ 0
  ·rw [if_pos h0,← h]
  ·rw [if_neg h0]
   exact Prod.ext rfl (Prod.ext rfl (Decidable.not_not.1 h0).symm)

theorem diComb_end (acc:List Row) (l:List UInt8) (p:Nat):diComb acc (diRows 0 l p)=(acc,p,0):=by simp [diComb,diRows]

theorem diComb_step {n:Nat} {l:List UInt8} {p:Nat} (acc:List Row) {r:Row} {f:Nat} (h:diTakeRow l p=(r,f,0)) :
  diComb acc (diRows (n+1) l p)=diComb (acc ++ [r]) (diRows n l f):=by
 conv => lhs; unfold diRows
 rw [h]
 simp only [ne_eq,not_true_eq_false,if_false]
 unfold diComb
 by_cases h2:(diRows n l f).2.2 ≠ 0
 ·rw [if_pos h2,if_pos h2,if_pos h2]
 ·rw [if_neg h2,if_neg h2]
  simp

theorem diComb_err {n:Nat} {l:List UInt8} {p:Nat} (acc:List Row) {r:Row} {f e:Nat} (h:diTakeRow l p=(r,f,e)) (he:e ≠ 0) :
  diComb acc (diRows (n+1) l p)=([],0,e):=by
 unfold diRows
 rw [h]
 simp only [if_pos he]
 unfold diComb
 rw [if_pos he]

theorem idTake_at {t:List UInt8} (h:idIs t=true) (a z:List UInt8):idTake (a ++ ((vput t.length ++ t) ++ z)) (a.length:Int)=(t,a.length+(vput t.length ++ t).length,0):=by
 have hl:=(idIs_parts h).2.1
 have e:=vtake_text a t z 16 (by omega) (by omega)
 unfold idTake
 rw [e]
 simp [h]
 omega

theorem diTakeRow_put {r:Row} (h:rowOk r=true) (a z:List UInt8):diTakeRow (a ++ (rowBytes r ++ z)) a.length=(r,a.length+(rowBytes r).length,0):=by
 obtain⟨h1,h2⟩:=rowOk_parts h
 have e1:=idTake_at h1 a (vaBytes r.v ++ z)
 have e2:=vaTake_put h2 (a ++ (vput r.c.length ++ r.c)) z
 have e3:a ++ (rowBytes r ++ z)=a ++ ((vput r.c.length ++ r.c) ++ (vaBytes r.v ++ z)):=by simp [rowBytes]
 have e4:(a ++ (vput r.c.length ++ r.c)) ++ (vaBytes r.v ++ z)=a ++ ((vput r.c.length ++ r.c) ++ (vaBytes r.v ++ z)):=by simp
 rw [e4] at e2
 have e5:(((a ++ (vput r.c.length ++ r.c)).length:Nat):Int)=((a.length+(vput r.c.length ++ r.c).length:Nat):Int):=by simp
 rw [e5] at e2
 unfold diTakeRow
 rw [e3,e1]
 simp only [ne_eq,not_true_eq_false,if_false]
 rw [e2]
 simp only [not_true_eq_false,if_false]
 refine Prod.ext rfl (Prod.ext ?_ rfl)
 simp [rowBytes]
 omega

theorem diRows_put:∀ (t:List Row),(∀ r ∈ t,rowOk r=true)→∀ a z:List UInt8,diRows t.length (a ++ (rowsBytes t ++ z)) a.length=(t,a.length+(rowsBytes t).length,0)
 | [],_,a,z => by simp [diRows,rowsBytes]
 | r :: t,h,a,z => by
  have e1:=diTakeRow_put (h r (by simp)) a (rowsBytes t ++ z)
  have e2:=diRows_put t (fun x hx => h x (by simp [hx])) (a ++ rowBytes r) z
  have e3:a ++ (rowsBytes (r :: t) ++ z)=a ++ (rowBytes r ++ (rowsBytes t ++ z)):=by simp [rowsBytes_cons]
  have e4:(a ++ rowBytes r) ++ (rowsBytes t ++ z)=a ++ (rowBytes r ++ (rowsBytes t ++ z)):=by simp
  rw [e4,List.length_append] at e2
  rw [List.length_cons,e3]
  unfold diRows
  rw [e1]
  simp only [ne_eq,not_true_eq_false,if_false]
  rw [e2]
  simp only [not_true_eq_false,if_false]
  rw [rowsBytes_cons,List.length_append,Nat.add_assoc]

theorem diTake_put {t:List Row} (h:diMay t=true) (a z:List UInt8):diTake (a ++ (diBytes t ++ z)) (a.length:Int)=(t,a.length+(diBytes t).length,0):=by
 obtain⟨h1,h2,_⟩:=diMay_iff.1 h
 have e1:=vget_vput t.length (by omega) a (rowsBytes t ++ z)
 have e2:=diRows_put t h2 (a ++ vput t.length) z
 have e3:a ++ (diBytes t ++ z)=a ++ (vput t.length ++ (rowsBytes t ++ z)):=by simp [diBytes]
 have e4:(a ++ vput t.length) ++ (rowsBytes t ++ z)=a ++ (vput t.length ++ (rowsBytes t ++ z)):=by simp
 rw [e4,List.length_append] at e2
 unfold diTake
 rw [e3,e1]
 simp only [ne_eq,not_true_eq_false,if_false]
 rw [if_neg (by omega),e2]
 simp only [not_true_eq_false,if_false]
 rw [h]
 simp only [Bool.true_eq_false,if_false]
 simp only [diBytes,List.length_append,Nat.add_assoc]

theorem idTake_bytes {l:List UInt8} {p:Nat} {t:List UInt8} {f:Nat} (h:idTake l p=(t,f,0)):idIs t=true∧p≤f∧f≤l.length∧vput t.length ++ t=(l.drop p).take (f - p):=by
 unfold idTake at h
 by_cases h1:(vtake l p 16).2.2 ≠ 0
 ·rw [if_pos h1] at h
  simp only [Prod.mk.injEq] at h
  exact absurd h.2.2 h1
 ·rw [if_neg h1] at h
  by_cases h2:idIs (vtake l p 16).1=true
  ·rw [if_pos h2] at h
   rw [h] at h2
   have:=vtake_bytes h
   exact⟨h2,this.1,this.2.1,this.2.2.1⟩
  ·rw [if_neg h2] at h
   simp at h

theorem diTakeRow_bytes {l:List UInt8} {p:Nat} {r:Row} {f:Nat} (h:diTakeRow l p=(r,f,0)):rowOk r=true∧p≤f∧f≤l.length∧rowBytes r=(l.drop p).take (f - p):=by
 obtain⟨c,g,e,hc⟩ : ∃ c g e,idTake l p=(c,g,e):=⟨_,_,_,rfl⟩
 unfold diTakeRow at h
 rw [hc] at h
 simp only at h
 by_cases h1:e=0
 ·subst h1
  simp only [ne_eq,not_true_eq_false,if_false] at h
  obtain⟨v,k,e',hv⟩ : ∃ v k e',vaTake l g=(v,k,e'):=⟨_,_,_,rfl⟩
  rw [hv] at h
  simp only at h
  by_cases h2:e'=0
  ·subst h2
   simp only [not_true_eq_false,if_false,Prod.mk.injEq,and_true] at h
   obtain⟨rfl,rfl⟩:=h
   obtain⟨a1,a2,a3,a4⟩:=idTake_bytes hc
   obtain⟨b1,b2,b3,b4⟩:=vaPut_take hv
   refine ⟨by unfold rowOk; rw [a1,b1]; rfl,by omega,b3,?_⟩
   unfold rowBytes
   simp only
   rw [a4,b4,show k - p=(g - p)+(k - g) by omega,List.take_add,List.drop_drop]
   congr 3
   omega
  ·rw [if_pos h2] at h
   simp only [Prod.mk.injEq] at h
   exact absurd h.2.2 h2
 ·rw [if_pos h1] at h
  simp only [Prod.mk.injEq] at h
  exact absurd h.2.2 h1

theorem diRows_bytes:∀ (n:Nat) {l:List UInt8} {p:Nat} {t:List Row} {f:Nat},p≤l.length→diRows n l p=(t,f,0) →
  t.length=n∧(∀ r ∈ t,rowOk r=true)∧p≤f∧f≤l.length∧rowsBytes t=(l.drop p).take (f - p)
 | 0,l,p,t,f,hp,h => by
  simp only [diRows,Prod.mk.injEq,and_true] at h
  obtain⟨rfl,rfl⟩:=h
  exact⟨rfl,by simp,Nat.le_refl _,hp,by simp [rowsBytes]⟩
 | n+1,l,p,t,f,hp,h => by
  obtain⟨r,g,e,hr⟩ : ∃ r g e,diTakeRow l p=(r,g,e):=⟨_,_,_,rfl⟩
  unfold diRows at h
  rw [hr] at h
  simp only at h
  by_cases h1:e=0
  ·subst h1
   simp only [ne_eq,not_true_eq_false,if_false] at h
   obtain⟨u,k,e',hu⟩ : ∃ u k e',diRows n l g=(u,k,e'):=⟨_,_,_,rfl⟩
   rw [hu] at h
   simp only at h
   by_cases h2:e'=0
   ·subst h2
    simp only [not_true_eq_false,if_false,Prod.mk.injEq,and_true] at h
    obtain⟨rfl,rfl⟩:=h
    obtain⟨a1,a2,a3,a4⟩:=diTakeRow_bytes hr
    obtain⟨b1,b2,b3,b4,b5⟩:=diRows_bytes n a3 hu
    refine ⟨by simp [b1],?_,by omega,b4,?_⟩
    ·intro x hx
     rcases List.mem_cons.1 hx with rfl | hx
     ·exact a1
     ·exact b2 x hx
    ·rw [rowsBytes_cons,a4,b5,show k - p=(g - p)+(k - g) by omega,List.take_add,List.drop_drop]
     congr 3
     omega
   ·rw [if_pos h2] at h
    simp only [Prod.mk.injEq] at h
    exact absurd h.2.2 h2
  ·rw [if_pos h1] at h
   simp only [Prod.mk.injEq] at h
   exact absurd h.2.2 h1

theorem vget_in_facts {l:List UInt8} {p:Int} {n f:Nat} (h:vget l p=(n,f,0)):0≤p∧p.toNat≤f∧f≤l.length∧vput n=(l.drop p.toNat).take (f - p.toNat):=by
 have hp:0≤p:=by
  by_cases h0:0≤p
  ·exact h0
  ·unfold vget at h
   rw [if_pos (.inl (by omega))] at h
   simp at h
 obtain⟨q,rfl⟩:=Int.eq_ofNat_of_zero_le hp
 have:=vget_bytes h
 exact⟨hp,by simpa using this.1,this.2.1,by simpa using this.2.2⟩

/-! ### The sum -/

def fnvM:Nat:=18446744073709551616
def fnvP:Nat:=1099511628211
def fnvB:Nat:=14695981039346656037
def fnv1 (h:Nat) (b:UInt8):Nat:=((h ^^^ b.toNat) * fnvP) % fnvM
def fnv (l:List UInt8):Nat:=l.foldl fnv1 fnvB
def diSum (t:List Row):Nat:=fnv (diPut t).1

theorem foldl_snoc {α β:Type} (f:β→α→β) (i:β) (l:List α) (b:α):(l ++ [b]).foldl f i=f (l.foldl f i) b:=by simp

theorem fnv_snoc (l:List UInt8) (b:UInt8):fnv (l ++ [b])=fnv1 (fnv l) b:=foldl_snoc fnv1 fnvB l b

theorem fnvM_pos:0 < fnvM:=by unfold fnvM; omega

theorem fnv_lt (l:List UInt8):fnv l < fnvM:=by
 rcases List.eq_nil_or_concat l with rfl | ⟨a,b,rfl⟩
 ·show fnvB < fnvM
  unfold fnvB fnvM
  omega
 ·rw [List.concat_eq_append,fnv_snoc]
  unfold fnv1
  exact Nat.mod_lt _ fnvM_pos

/-! ### Get and Set -/

def diGet:List Row→List UInt8→Val × Bool
 | [],_ => (Val.zero,false)
 | r :: t,x => if r.c=x then (r.v,true) else diGet t x

def gSame (p q:Val × Bool):Bool:=vSame p.1 q.1 && (p.2 == q.2)

def diRest (t:List Row) (x:List UInt8):List Row:=t.filter fun r => !(r.c == x)

def plc (t:List Row) (x:List UInt8):Nat→Nat
 | 0 => 0
 | k+1 => if idLess (t.getD k Row.zero).c x=true then k+1 else plc t x k

theorem plc_le (t:List Row) (x:List UInt8):∀ k,plc t x k≤k
 | 0 => Nat.le_refl _
 | k+1 => by
  unfold plc
  split
  ·exact Nat.le_refl _
  ·exact Nat.le_succ_of_le (plc_le t x k)

def diPlace (t:List Row) (x:List UInt8):Nat:=plc t x t.length

def diIns (t:List Row) (r:Row):List Row:=t.take (diPlace t r.c) ++ ([r] ++ t.drop (diPlace t r.c))

def diSet (t:List Row) (c:Chg):List Row:=if c.on=true then diIns (diRest t c.c) ⟨c.c,c.v⟩ else diRest t c.c

def chGet (c:Chg):Val × Bool:=if c.on=true then (c.v,true) else (Val.zero,false)

theorem diGet_hit {r:Row} {x:List UInt8} (h:r.c=x) (t:List Row):diGet (r :: t) x=(r.v,true):=by unfold diGet; rw [if_pos h]
theorem diGet_miss {r : Row} {x : List UInt8} (h : ¬ r.c = x) (t : List Row) : diGet (r :: t) x = diGet t x := by conv => lhs; unfold diGet
                                                                                                                  rw [if_neg h]

theorem diGet_append:∀ (a b:List Row) (x:List UInt8),diGet (a ++ b) x=if (diGet a x).2=true then diGet a x else diGet b x
 | [],b,x => by simp [diGet]
 | r :: a,b,x => by
  rw [List.cons_append]
  by_cases h:r.c=x
  ·rw [diGet_hit h,diGet_hit h]; simp
  ·rw [diGet_miss h,diGet_miss h]
   exact diGet_append a b x

theorem diGet_zero (t:List Row) (x:List UInt8):(diGet t x).2=true∨diGet t x=(Val.zero,false):=by
 induction t with
 | nil => exact .inr rfl
 | cons r t ih =>
  unfold diGet
  by_cases h:r.c=x
  ·rw [if_pos h]; exact .inl rfl
  ·rw [if_neg h]; exact ih

/-! ### Rising tables -/

theorem set_mem {t:List Row} {c:Chg} {r:Row} (h:r ∈ diSet t c):r ∈ t∨(c.on=true∧r=⟨c.c,c.v⟩):=by
 unfold diSet at h
 by_cases ho:c.on=true
 ·rw [if_pos ho] at h
  unfold diIns at h
  rcases List.mem_append.1 h with h | h
  ·exact .inl (List.mem_filter.1 (List.mem_of_mem_take h)).1
  ·rcases List.mem_append.1 h with h | h
   ·exact .inr ⟨ho,by simpa using h⟩
   ·exact .inl (List.mem_filter.1 (List.mem_of_mem_drop h)).1
 ·rw [if_neg ho] at h
  exact .inl (List.mem_filter.1 h).1

/-! ### Changes -/

def cts (t:List Row):List (List UInt8):=t.map (·.c)

def chg (a b:List Row) (x:List UInt8):Option Chg:=if gSame (diGet a x) (diGet b x)=true then none else some ⟨x,(diGet b x).2,(diGet b x).1⟩

def diChanges (a b:List Row):List Chg:=(mrg (cts a ++ cts b)).filterMap (chg a b)

def setAll (t:List Row) (l:List Chg):List Row:=l.foldl diSet t
end
section
open Go.RowKit

def rowVals (r:Row):List Value:=[.string ⟨r.c.toArray⟩,.int .i64 r.v.sh,.int .i64 r.v.pr,.int .i64 r.v.si,.string ⟨r.v.st.toArray⟩]

def Cells5 (w:World) (b o:Nat) (r:Row):Prop :=
 w.cell? ⟨b,o,none⟩=some (.string ⟨r.c.toArray⟩)∧w.cell? ⟨b,o+1,none⟩=some (.int .i64 r.v.sh)∧w.cell? ⟨b,o+2,none⟩=some (.int .i64 r.v.pr) ∧
  w.cell? ⟨b,o+3,none⟩=some (.int .i64 r.v.si)∧w.cell? ⟨b,o+4,none⟩=some (.string ⟨r.v.st.toArray⟩)

theorem Cells5.later {w w':World} {b o:Nat} {r:Row} (h:Cells5 w b o r) (hb:Below w.heap.size w w') (hlt:b < w.heap.size):Cells5 w' b o r:=by
 obtain⟨h0,h1,h2,h3,h4⟩:=h
 have k:∀ o,w'.cell? ⟨b,o,none⟩=w.cell? ⟨b,o,none⟩:=fun o => hb.cell (p:=⟨b,o,none⟩) hlt
 exact⟨(k _).trans h0,(k _).trans h1,(k _).trans h2,(k _).trans h3,(k _).trans h4⟩

def Tab (w:World) (v:Value) (t:List Row):Prop :=
 ∃ a cap,v=.slice a t.length cap∧t.length≤cap∧cap≤maxLen∧(a=none→cap=0) ∧
  (t=[]∨∃ b off,a=some ⟨b,off,none⟩∧b < w.heap.size∧∀ i,i < t.length→Cells5 w b (off+i * 5) (t.getD i Row.zero))

theorem Tab.later {w w':World} {v:Value} {t:List Row} (h:Tab w v t) (hb:Below w.heap.size w w'):Tab w' v t:=by
 obtain⟨a,cap,h1,h2,h3,h4,h5⟩:=h
 refine ⟨a,cap,h1,h2,h3,h4,?_⟩
 rcases h5 with h5 | ⟨b,off,e,hlt,hc⟩
 ·exact .inl h5
 ·exact .inr ⟨b,off,e,Nat.lt_of_lt_of_le hlt hb.size,fun i hi => (hc i hi).later hb hlt⟩

theorem tab_nil (w:World):Tab w (.slice none 0 0) []:=⟨none,0,rfl,by simp,by simp,fun _ => rfl,.inl rfl⟩

theorem Tab.row {w wr:World} {a:Option Addr} {n cap:Nat} {t:List Row} (h:Tab w (.slice a n cap) t) (hb:Below w.heap.size w wr) (k:Nat) (hk:k < t.length) :
  ∃ b off,a=some ⟨b,off,none⟩∧Cells5 wr b (off+k * 5) (t.getD k Row.zero):=by
 obtain⟨a',cap',e,_,_,_,h⟩:=h.later hb
 simp only [Value.slice.injEq] at e
 rcases h with h | ⟨b,off,e',_,hc⟩
 ·rw [h] at hk; simp at hk
 ·exact⟨b,off,e.1.trans e',hc k hk⟩

theorem Tab.open' {w:World} {v:Value} {t:List Row} (h:Tab w v t):∃ a cap,v=.slice a t.length cap∧t.length≤9223372036854775807:=by
 obtain⟨a,cap,e,h1,h2,_⟩:=h
 unfold maxLen at h2
 exact⟨a,cap,e,by omega⟩

def Short (t:List Row):Prop:=∀ r ∈ t,r.c.length≤4294967296∧r.v.st.length≤4294967296

theorem Short.get {t:List Row} (h:Short t) {k:Nat} (hk:k < t.length):(t.getD k Row.zero).c.length≤4294967296∧(t.getD k Row.zero).v.st.length≤4294967296:=by
 rw [← row_get hk]
 exact h _ (List.getElem_mem hk)

/-! ### '==' -/

theorem val_eqIn (d:Nat) (a b c a' b' c':Int) (s s':List UInt8) (w:World) :
  (Op.equalIn (d+1+1) 53 (.agg #[.int .i64 a,.int .i64 b,.int .i64 c,.string ⟨s.toArray⟩]) (.agg #[.int .i64 a',.int .i64 b',.int .i64 c',.string ⟨s'.toArray⟩])).run Tryz.prog w=.ok (vSame ⟨a,b,c,s⟩ ⟨a',b',c',s'⟩) w:=by
 have hS:Tryz.prog.underlying 53=some (.struct (Tryz.prog.fieldsOf 53)):=by kernel_rfl
 have hp:Tryz.prog.stoodInHeld 53=false:=by kernel_rfl
 have u3:=Tryz.underlying3
 have u9:=Tryz.underlying9
 have a3:=Tryz.isAgg3
 have z3:=Tryz.sizeOf3
 have a9:=Tryz.isAgg9
 have z9:=Tryz.sizeOf9
 rw [run_equalIn_agg w (d+1) 53 _ _ hS hp]
 simp only [Program.fieldsOf,Tryz.underlying53]
 go_simp
 unfold vSame
 by_cases h1:a=a' <;> by_cases h2:b=b' <;> by_cases h3:c=c' <;> by_cases h4:s=s' <;> simp [h1,h2,h3,h4]

theorem val_eql5 (a b c a' b' c':Int) (s s':List UInt8) (w:World) :
  (binOp .eql 53 (.agg #[.int .i64 a,.int .i64 b,.int .i64 c,.string ⟨s.toArray⟩]) (.agg #[.int .i64 a',.int .i64 b',.int .i64 c',.string ⟨s'.toArray⟩])).run Tryz.prog w=.ok (.bool (vSame ⟨a,b,c,s⟩ ⟨a',b',c',s'⟩)) w:=by
 rw [run_eql_struct,show (10000:Nat)=9998+1+1 from rfl,val_eqIn 9998]
 rfl

theorem val_neq5 (a b c a' b' c':Int) (s s':List UInt8) (w:World) :
  (binOp .neq 53 (.agg #[.int .i64 a,.int .i64 b,.int .i64 c,.string ⟨s.toArray⟩]) (.agg #[.int .i64 a',.int .i64 b',.int .i64 c',.string ⟨s'.toArray⟩])).run Tryz.prog w=.ok (.bool (!vSame ⟨a,b,c,s⟩ ⟨a',b',c',s'⟩)) w:=by
 rw [run_neq_struct,show (10000:Nat)=9998+1+1 from rfl,val_eqIn 9998]
 rfl

theorem row_eqIn (d:Nat) (k k':List UInt8) (a b c a' b' c':Int) (s s':List UInt8) (w:World) :
  (Op.equalIn (d+1+1+1) 73 (.agg #[.string ⟨k.toArray⟩,.int .i64 a,.int .i64 b,.int .i64 c,.string ⟨s.toArray⟩]) (.agg #[.string ⟨k'.toArray⟩,.int .i64 a',.int .i64 b',.int .i64 c',.string ⟨s'.toArray⟩])).run Tryz.prog w=.ok (rSame ⟨k,a,b,c,s⟩ ⟨k',a',b',c',s'⟩) w:=by
 have hS:Tryz.prog.underlying 73=some (.struct (Tryz.prog.fieldsOf 73)):=by kernel_rfl
 have hp:Tryz.prog.stoodInHeld 73=false:=by kernel_rfl
 have u9:=Tryz.underlying9
 have a9:=Tryz.isAgg9
 have z9:=Tryz.sizeOf9
 have a35:=Tryz.isAgg53
 have z35:=Tryz.sizeOf53
 have hv:=fun w => val_eqIn d a b c a' b' c' s s' w
 rw [run_equalIn_agg w (d+1+1) 73 _ _ hS hp]
 simp only [Program.fieldsOf,Tryz.underlying73]
 clear hS hp
 go_simp
 unfold rSame
 by_cases hk:k=k'
 ·subst hk
  cases vSame ⟨a,b,c,s⟩ ⟨a',b',c',s'⟩ <;> simp
 ·have:(k == k')=false:=by simpa using hk
  rw [if_neg hk]
  simp [this]

theorem row_neq5 (k k':List UInt8) (a b c a' b' c':Int) (s s':List UInt8) (w:World) :
  (binOp .neq 73 (.agg #[.string ⟨k.toArray⟩,.int .i64 a,.int .i64 b,.int .i64 c,.string ⟨s.toArray⟩]) (.agg #[.string ⟨k'.toArray⟩,.int .i64 a',.int .i64 b',.int .i64 c',.string ⟨s'.toArray⟩])).run Tryz.prog w=.ok (.bool (!rSame ⟨k,a,b,c,s⟩ ⟨k',a',b',c',s'⟩)) w:=by
 rw [run_neq_struct,show (10000:Nat)=9997+1+1+1 from rfl,row_eqIn 9997]
 rfl

theorem chg_eqIn (d:Nat) (k k':List UInt8) (o o':Bool) (a b c a' b' c':Int) (s s':List UInt8) (w:World) :
  (Op.equalIn (d+1+1+1) 105 (.agg #[.string ⟨k.toArray⟩,.bool o,.int .i64 a,.int .i64 b,.int .i64 c,.string ⟨s.toArray⟩]) (.agg #[.string ⟨k'.toArray⟩,.bool o',.int .i64 a',.int .i64 b',.int .i64 c',.string ⟨s'.toArray⟩])).run Tryz.prog w=.ok (cSame ⟨k,o,a,b,c,s⟩ ⟨k',o',a',b',c',s'⟩) w:=by
 have hS:Tryz.prog.underlying 105=some (.struct (Tryz.prog.fieldsOf 105)):=by kernel_rfl
 have hp:Tryz.prog.stoodInHeld 105=false:=by kernel_rfl
 have u4:=Tryz.underlying4
 have a4:=Tryz.isAgg4
 have z4:=Tryz.sizeOf4
 have u9:=Tryz.underlying9
 have a9:=Tryz.isAgg9
 have z9:=Tryz.sizeOf9
 have a35:=Tryz.isAgg53
 have z35:=Tryz.sizeOf53
 have hv:=fun w => val_eqIn d a b c a' b' c' s s' w
 rw [run_equalIn_agg w (d+1+1) 105 _ _ hS hp]
 simp only [Program.fieldsOf,Tryz.underlying105]
 clear hS hp
 go_simp
 unfold cSame
 by_cases hk:k=k'
 ·subst hk
  cases o <;> cases o' <;> cases vSame ⟨a,b,c,s⟩ ⟨a',b',c',s'⟩ <;> simp
 ·have:(k == k')=false:=by simpa using hk
  rw [if_neg hk]
  simp [this]

theorem chg_neq6 (k k':List UInt8) (o o':Bool) (a b c a' b' c':Int) (s s':List UInt8) (w:World) :
  (binOp .neq 105 (.agg #[.string ⟨k.toArray⟩,.bool o,.int .i64 a,.int .i64 b,.int .i64 c,.string ⟨s.toArray⟩]) (.agg #[.string ⟨k'.toArray⟩,.bool o',.int .i64 a',.int .i64 b',.int .i64 c',.string ⟨s'.toArray⟩])).run Tryz.prog w=.ok (.bool (!cSame ⟨k,o,a,b,c,s⟩ ⟨k',o',a',b',c',s'⟩)) w:=by
 rw [run_neq_struct,show (10000:Nat)=9997+1+1+1 from rfl,chg_eqIn 9997]
 rfl

theorem chg_eql6 (k k':List UInt8) (o o':Bool) (a b c a' b' c':Int) (s s':List UInt8) (w:World) :
  (binOp .eql 105 (.agg #[.string ⟨k.toArray⟩,.bool o,.int .i64 a,.int .i64 b,.int .i64 c,.string ⟨s.toArray⟩]) (.agg #[.string ⟨k'.toArray⟩,.bool o',.int .i64 a',.int .i64 b',.int .i64 c',.string ⟨s'.toArray⟩])).run Tryz.prog w=.ok (.bool (cSame ⟨k,o,a,b,c,s⟩ ⟨k',o',a',b',c',s'⟩)) w:=by
 rw [run_eql_struct,show (10000:Nat)=9997+1+1+1 from rfl,chg_eqIn 9997]
 rfl

/-! ### Few -/

def fewT (t:List Row):Bool:=decide (t.length≤40) && t.all fun r => decide (r.c.length≤60) && decide (r.v.st.length≤100)

theorem fewT_yes {t:List Row} (h:fewT t=true):t.length≤40∧∀ r ∈ t,r.c.length≤60∧r.v.st.length≤100:=by
 unfold fewT at h
 simp only [Bool.and_eq_true,decide_eq_true_eq,List.all_eq_true] at h
 exact h

theorem fewT_short {t:List Row} (h:fewT t=true):Short t:=fun r hr => by
 have:=(fewT_yes h).2 r hr
 omega

theorem fewT_off {t:List Row} {k:Nat} (hk:k < t.length) (h:60 < (t.getD k Row.zero).c.length∨100 < (t.getD k Row.zero).v.st.length):fewT t=false:=by
 rw [Bool.eq_false_iff]
 intro h'
 have hm:t.getD k Row.zero ∈ t:=by rw [← row_get hk]; exact List.getElem_mem hk
 have:=(fewT_yes h').2 _ hm
 omega

theorem fewT_on {t:List Row} (h1:t.length≤40) (h2:∀ k,k < t.length→(t.getD k Row.zero).c.length≤60∧(t.getD k Row.zero).v.st.length≤100):fewT t=true:=by
 unfold fewT
 simp only [Bool.and_eq_true,decide_eq_true_eq,List.all_eq_true]
 refine ⟨h1,fun r hr => ?_⟩
 obtain⟨k,hk,rfl⟩:=List.getElem_of_mem hr
 rw [row_get hk]
 exact h2 k hk

theorem fewt_any {w:World} {v:Value} {t:List Row} (hv:Tab w v t) :
  Calls Tryz.prog 10 #[v] w fun e w' => e=.returned (.bool (fewT t))∧w=w':=by
 have HV:=hZq hv
 obtain⟨a,cap,rfl,hm⟩:=hv.open'
 clear hv
 by_cases h:40 < t.length
 ·have HR:Hid (fewT t=false):=by show _=_; unfold fewT; simp; omega
  go_enter Tryz.func10,Tryz.ntmps10
  go_wp2_with fail
  go_ret
  exact⟨by rw [HR.out]; rfl,rfl⟩
 ·go_enter Tryz.func10,Tryz.ntmps10
  go_wp2_with fail
  go_loop [3] (fun i => ∃ k:Nat,k≤t.length∧i=.int .i64 k∧Hid (∀ j,j < k→(t.getD j Row.zero).c.length≤60∧(t.getD j Row.zero).v.st.length≤100)) (fun i => t.length - (intOf i).toNat)
  case atStart => exact⟨0,by omega,rfl,fun j hj => absurd hj (by omega)⟩
  case round =>
   obtain⟨k,hk,rfl,HA⟩:=hrel
   by_cases hlt:k < t.length
   ·obtain⟨b,off,rfl,h0,h1,h2,h3,h4⟩:=HV.out.row (Below.refl _ _) k hlt
    obtain⟨r,hr⟩ : ∃ r,t.getD k Row.zero=r:=⟨_,rfl⟩
    rw [hr] at h0 h1 h2 h3 h4
    have HRr:=hZq hr
    clear hr
    by_cases hn:60 < r.c.length
    ·have HR:Hid (fewT t=false):=by show _=_; exact fewT_off hlt (.inl (by rw [HRr.out]; exact hn))
     have t1:decide (60 < r.c.length)=true:=by simpa using hn
     go_wp2_with fail
     go_ret
     exact⟨by rw [HR.out]; rfl,rfl⟩
    ·by_cases hs:100 < r.v.st.length
     ·have HR:Hid (fewT t=false):=by show _=_; exact fewT_off hlt (.inr (by rw [HRr.out]; exact hs))
      go_wp2_with fail
      go_ret
      exact⟨by rw [HR.out]; rfl,rfl⟩
     ·have HN:Hid (∀ j,j < k+1→(t.getD j Row.zero).c.length≤60∧(t.getD j Row.zero).v.st.length≤100):=by
       show ∀ j,j < k+1→_
       intro j hj
       by_cases hjk:j=k
       ·rw [hjk,HRr.out]; omega
       ·exact HA.out j (by omega)
      go_wp2_with fail
      go_round
      case rel => exact⟨k+1,by omega,by go_num,HN⟩
      case measure => simp [intOf]; omega
   ·obtain rfl:k=t.length:=by omega
    have HR:Hid (fewT t=true):=by show _=_; exact fewT_on (by omega) HA.out
    go_wp2_with fail
    go_ret
    exact⟨by rw [HR.out]; rfl,rfl⟩

theorem fewt_eq {w:World} {v:Value} {t:List Row} (hv:Tab w v t) {r:Bool} (h:Hid (fewT t=r)) :
  Calls Tryz.prog 10 #[v] w fun e w' => e=.returned (.bool r)∧w=w':=by
 have:=fewt_any hv
 rwa [h.out] at this

/-! ### Two tables -/

theorem tSame_next {t u:List Row} {k:Nat} (h:(List.range k).all (fun i => rSame (t.getD i Row.zero) (u.getD i Row.zero))=true) (hk:rSame (t.getD k Row.zero) (u.getD k Row.zero)=true) :
  (List.range (k+1)).all (fun i => rSame (t.getD i Row.zero) (u.getD i Row.zero))=true:=range_all_succ h hk
end
section
open Go.Shelf Go.RowKit

def Tryz.lays169_ren:Go.Shelf.Ren:=⟨fun | 169 => 172 | n => n,fun | 70 => 173 | 9 => 9 | 0 => 0 | 72 => 175 | 37 => 118 | 127 => 188 | 3 => 3 | 5 => 5 | n => n,fun | n => n⟩

theorem Tryz.lays169:Go.Proofs.Lays.n169 Tryz.prog Tryz.lays169_ren:={
 mixed:=by kernel_rfl
 f169:=Tryz.func172.trans (congrArg some (by kernel_rfl))
 t0:=Tryz.underlying0
 a0:=Tryz.isAgg0
 z0:=Tryz.sizeOf0
 v0:=Tryz.zeroValue0
 t3:=Tryz.underlying3
 a3:=Tryz.isAgg3
 z3:=Tryz.sizeOf3
 v3:=Tryz.zeroValue3
 t9:=Tryz.underlying9
 a9:=Tryz.isAgg9
 z9:=Tryz.sizeOf9
 v9:=Tryz.zeroValue9
 t37:=Tryz.underlying118
 a37:=Tryz.isAgg118
 z37:=Tryz.sizeOf118
 v37:=Tryz.zeroValue118
 t70:=Tryz.underlying173
 a70:=Tryz.isAgg173
 z70:=Tryz.sizeOf173
 v70:=Tryz.zeroValue173
 t72:=Tryz.underlying175
 a72:=Tryz.isAgg175
 z72:=Tryz.sizeOf175
 v72:=Tryz.zeroValue175
 t127:=Tryz.underlying188
 a127:=Tryz.isAgg188
 z127:=Tryz.sizeOf188
 v127:=Tryz.zeroValue188 }

theorem Tryz.Builder_Extra_169:Builder.Extra Tryz.prog Tryz.lays169_ren:={
 sizeBuilder:=by kernel_rfl
 liesBuilder:=by kernel_rfl
 t5:=Tryz.underlying5
 a5:=Tryz.isAgg5
 z5:=Tryz.sizeOf5
 v5:=Tryz.zeroValue5
 infoByte:=by kernel_rfl
 cellsByte:=by kernel_rfl
 sizeByte:=by kernel_rfl
 neB5:=by decide }

def Tryz.lays106_ren:Go.Shelf.Ren:=⟨fun | 106 => 146 | 213 => 162 | 265 => 174 | n => n,fun | 9 => 9 | 3 => 3 | n => n,fun | n => n⟩

theorem Tryz.lays106:Go.Proofs.Lays.n106 Tryz.prog Tryz.lays106_ren:={
 mixed:=by kernel_rfl
 f106:=Tryz.func146.trans (congrArg some (by kernel_rfl))
 f213:=Tryz.func162.trans (congrArg some (by kernel_rfl))
 f265:=Tryz.func174.trans (congrArg some (by kernel_rfl))
 t3:=Tryz.underlying3
 a3:=Tryz.isAgg3
 z3:=Tryz.sizeOf3
 v3:=Tryz.zeroValue3
 t9:=Tryz.underlying9
 a9:=Tryz.isAgg9
 z9:=Tryz.sizeOf9
 v9:=Tryz.zeroValue9 }

open Go.RowKit in
theorem Tryz.strings_Compare (a b:ByteArray) (w:World) :
  Calls Tryz.prog 146 #[.string a,.string b] w fun e w' => e=.returned (.int .i64 (Lib.compareBytes a.data.toList b.data.toList))∧w'=w:=Any.strings_Compare Tryz.lays106 a b w

def Tryz.lays122_ren:Go.Shelf.Ren:=⟨fun | 122 => 145 | 215 => 161 | n => n,fun | 3 => 3 | 4 => 4 | n => n,fun | n => n⟩

theorem Tryz.lays122:Go.Proofs.Lays.n122 Tryz.prog Tryz.lays122_ren:={
 mixed:=by kernel_rfl
 f122:=Tryz.func145.trans (congrArg some (by kernel_rfl))
 f215:=Tryz.func161.trans (congrArg some (by kernel_rfl))
 t3:=Tryz.underlying3
 a3:=Tryz.isAgg3
 z3:=Tryz.sizeOf3
 v3:=Tryz.zeroValue3
 t4:=Tryz.underlying4
 a4:=Tryz.isAgg4
 z4:=Tryz.sizeOf4
 v4:=Tryz.zeroValue4 }

open Go.RowKit in
theorem Tryz.cmp_Compare_int (x y:Int) (w:World) :
  Calls Tryz.prog 145 #[.int .i64 x,.int .i64 y] w fun e w' => e=.returned (.int .i64 (Lib.compareInt x y))∧w'=w:=Any.cmp_Compare_int Tryz.lays122 x y w

open Go.RowKit in
theorem Tryz.Builder_String_any_k (B b:Nat) (l:List UInt8) (w:World) (h:Lib.IsBuilderF 175 5 B b (Lib.byteCells l) w) (hBw:B≤w.heap.size) :
  Calls Tryz.prog 172 #[.pointer (some ⟨b,0,none⟩)] w fun e w' => e=.returned (.string ⟨l.toArray⟩)∧(Lib.IsBuilderF 175 5 B b (Lib.byteCells l) w'∧Below B w w'∧Lib.OthersKept 5 (some b) w w'):=Any.Builder_String_any_k Tryz.lays169 Tryz.Builder_Extra_169 B b l w h hBw

def Tryz.lays194_ren:Go.Shelf.Ren:=⟨fun | 194 => 183 | n => n,fun | 31 => 183 | 9 => 9 | 3 => 3 | 4 => 4 | 0 => 0 | n => n,fun | n => n⟩

theorem Tryz.lays194:Go.Proofs.Lays.n194 Tryz.prog Tryz.lays194_ren:={
 mixed:=by kernel_rfl
 f194:=Tryz.func183.trans (congrArg some (by kernel_rfl))
 t0:=Tryz.underlying0
 a0:=Tryz.isAgg0
 z0:=Tryz.sizeOf0
 v0:=Tryz.zeroValue0
 t3:=Tryz.underlying3
 a3:=Tryz.isAgg3
 z3:=Tryz.sizeOf3
 v3:=Tryz.zeroValue3
 t4:=Tryz.underlying4
 a4:=Tryz.isAgg4
 z4:=Tryz.sizeOf4
 v4:=Tryz.zeroValue4
 t9:=Tryz.underlying9
 a9:=Tryz.isAgg9
 z9:=Tryz.sizeOf9
 v9:=Tryz.zeroValue9
 t31:=Tryz.underlying183
 a31:=Tryz.isAgg183
 z31:=Tryz.sizeOf183
 v31:=Tryz.zeroValue183 }

open Go.RowKit Go.Lib Go.Sort in
theorem Tryz.slices_Compact_string_empty (a:Option Addr) (cap:Nat) (w:World) :
  Calls Tryz.prog 183 #[.slice a 0 cap] w fun e w' => e=.returned (.slice a 0 cap)∧w'=w:=Any.slices_Compact_string_empty Tryz.lays194 a cap w

def Tryz.laysSlE43_f37_ren:Go.Shelf.Ren:=⟨fun | 43 => 183 | n => n,fun | 22 => 183 | 23 => 9 | 3 => 3 | 4 => 4 | 0 => 0 | n => n,fun | n => n⟩

theorem Tryz.laysSlE43_f37:Go.Proofs.SlLaysE.n43 Tryz.prog Tryz.laysSlE43_f37_ren:={
 mixed:=by kernel_rfl
 f43:=⟨Tryz.f183.name,by decide,Tryz.func183.trans (congrArg some (by kernel_rfl))⟩
 t0:=Tryz.underlying0
 a0:=Tryz.isAgg0
 z0:=Tryz.sizeOf0
 v0:=Tryz.zeroValue0
 t3:=Tryz.underlying3
 a3:=Tryz.isAgg3
 z3:=Tryz.sizeOf3
 v3:=Tryz.zeroValue3
 t4:=Tryz.underlying4
 a4:=Tryz.isAgg4
 z4:=Tryz.sizeOf4
 v4:=Tryz.zeroValue4
 t22:=Tryz.underlying183
 a22:=Tryz.isAgg183
 z22:=Tryz.sizeOf183
 v22:=Tryz.zeroValue183
 a23:=Tryz.isAgg9
 z23:=Tryz.sizeOf9 }

open Go.RowKit Go.Lib Go.Sort in
theorem Tryz.slices_Compact {α:Type} [Inhabited α] [DecidableEq α] (enc:α→Value) (hO:OneCell enc) (heq:EqlAt Tryz.prog 9 enc (fun x y => decide (x=y))) (hne:NeqAt Tryz.prog 9 enc (fun x y => decide (x=y))) (zr:α) (v23:∀ w,(zeroValue 9).run Tryz.prog w=.ok (enc zr) w) (blk off cap:Nat) (d:Array α) (w:World) (hH:Holds enc w blk off d) (hsz:d.size≤9223372036854775807) (hcap:d.size≤cap) :
  Calls Tryz.prog 183 #[.slice (some ⟨blk,off,none⟩) d.size cap] w fun e w' => e=.returned (.slice (some ⟨blk,off,none⟩) (compactUpTo d d.size).length cap)∧∃ q,w'=putRow enc (Sort.ahead w q) blk off (compactUpTo d d.size ++ List.replicate (d.size - (compactUpTo d d.size).length) zr).toArray:=AnyE.slices_Compact Tryz.laysSlE43_f37 enc hO heq hne zr v23 blk off cap d w hH hsz hcap

def Tryz.laysSlF6_f36_ren:Go.Shelf.Ren:=⟨fun | 6 => 182 | 15 => 189 | 14 => 188 | 28 => 199 | 29 => 200 | 20 => 191 | 21 => 192 | 22 => 193 | 23 => 194 | 24 => 195 | 25 => 196 | 26 => 197 | 27 => 198 | 46 => 201 | 47 => 202 | 48 => 203 | 49 => 204 | 50 => 205 | 57 => 206 | n => n,fun | 22 => 183 | 24 => 9 | 25 => 148 | 3 => 3 | 39 => 117 | 0 => 0 | 53 => 115 | 55 => 54 | 4 => 4 | 46 => 202 | 45 => 201 | 50 => 206 | 5 => 5 | 9 => 9 | 66 => 210 | 70 => 214 | 76 => 216 | 77 => 217 | n => n,fun | n => n⟩

theorem Tryz.laysSlF6_f36:Go.Proofs.SlLaysF.n6 Tryz.prog Tryz.laysSlF6_f36_ren:={
 mixed:=by kernel_rfl
 f6:=⟨Tryz.f182.name,by decide,Tryz.func182.trans (congrArg some (by kernel_rfl))⟩
 f14:=⟨Tryz.f188.name,by decide,Tryz.func188.trans (congrArg some (by kernel_rfl))⟩
 f15:=Tryz.func189.trans (congrArg some (by kernel_rfl))
 f20:=⟨Tryz.f191.name,by decide,Tryz.func191.trans (congrArg some (by kernel_rfl))⟩
 f21:=⟨Tryz.f192.name,by decide,Tryz.func192.trans (congrArg some (by kernel_rfl))⟩
 f22:=⟨Tryz.f193.name,by decide,Tryz.func193.trans (congrArg some (by kernel_rfl))⟩
 f23:=⟨Tryz.f194.name,by decide,Tryz.func194.trans (congrArg some (by kernel_rfl))⟩
 f24:=⟨Tryz.f195.name,by decide,Tryz.func195.trans (congrArg some (by kernel_rfl))⟩
 f25:=⟨Tryz.f196.name,by decide,Tryz.func196.trans (congrArg some (by kernel_rfl))⟩
 f26:=⟨Tryz.f197.name,by decide,Tryz.func197.trans (congrArg some (by kernel_rfl))⟩
 f27:=⟨Tryz.f198.name,by decide,Tryz.func198.trans (congrArg some (by kernel_rfl))⟩
 f28:=Tryz.func199.trans (congrArg some (by kernel_rfl))
 f29:=Tryz.func200.trans (congrArg some (by kernel_rfl))
 f46:=⟨Tryz.f201.name,by decide,Tryz.func201.trans (congrArg some (by kernel_rfl))⟩
 f47:=Tryz.func202.trans (congrArg some (by kernel_rfl))
 f48:=Tryz.func203.trans (congrArg some (by kernel_rfl))
 f49:=⟨Tryz.f204.name,by decide,Tryz.func204.trans (congrArg some (by kernel_rfl))⟩
 f50:=⟨Tryz.f205.name,by decide,Tryz.func205.trans (congrArg some (by kernel_rfl))⟩
 f57:=⟨Tryz.f206.name,by decide,Tryz.func206.trans (congrArg some (by kernel_rfl))⟩
 t0:=Tryz.underlying0
 a0:=Tryz.isAgg0
 z0:=Tryz.sizeOf0
 v0:=Tryz.zeroValue0
 t3:=Tryz.underlying3
 a3:=Tryz.isAgg3
 z3:=Tryz.sizeOf3
 v3:=Tryz.zeroValue3
 t4:=Tryz.underlying4
 a4:=Tryz.isAgg4
 z4:=Tryz.sizeOf4
 v4:=Tryz.zeroValue4
 t5:=Tryz.underlying5
 a5:=Tryz.isAgg5
 z5:=Tryz.sizeOf5
 v5:=Tryz.zeroValue5
 t9:=Tryz.underlying9
 a9:=Tryz.isAgg9
 z9:=Tryz.sizeOf9
 v9:=Tryz.zeroValue9
 t22:=Tryz.underlying183
 a22:=Tryz.isAgg183
 z22:=Tryz.sizeOf183
 v22:=Tryz.zeroValue183
 a24:=Tryz.isAgg9
 z24:=Tryz.sizeOf9
 t25:=Tryz.underlying148
 a25:=Tryz.isAgg148
 z25:=Tryz.sizeOf148
 v25:=Tryz.zeroValue148
 t39:=Tryz.underlying117
 a39:=Tryz.isAgg117
 z39:=Tryz.sizeOf117
 v39:=Tryz.zeroValue117
 t45:=Tryz.underlying201
 a45:=Tryz.isAgg201
 z45:=Tryz.sizeOf201
 v45:=Tryz.zeroValue201
 t46:=Tryz.underlying202
 a46:=Tryz.isAgg202
 z46:=Tryz.sizeOf202
 v46:=Tryz.zeroValue202
 t50:=Tryz.underlying206
 a50:=Tryz.isAgg206
 z50:=Tryz.sizeOf206
 v50:=Tryz.zeroValue206
 t53:=Tryz.underlying115
 a53:=Tryz.isAgg115
 z53:=Tryz.sizeOf115
 v53:=Tryz.zeroValue115
 t55:=Tryz.underlying54
 a55:=Tryz.isAgg54
 z55:=Tryz.sizeOf54
 v55:=Tryz.zeroValue54
 t66:=Tryz.underlying210
 a66:=Tryz.isAgg210
 z66:=Tryz.sizeOf210
 v66:=Tryz.zeroValue210
 t70:=Tryz.underlying214
 a70:=Tryz.isAgg214
 z70:=Tryz.sizeOf214
 v70:=Tryz.zeroValue214
 t76:=Tryz.underlying216
 a76:=Tryz.isAgg216
 z76:=Tryz.sizeOf216
 v76:=Tryz.zeroValue216
 t77:=Tryz.underlying217
 a77:=Tryz.isAgg217
 z77:=Tryz.sizeOf217
 v77:=Tryz.zeroValue217 }

def Tryz.laysSlF06_f36_ren:Go.Shelf.Ren:=⟨fun | 6 => 182 | 15 => 189 | 14 => 188 | 28 => 199 | 29 => 200 | 20 => 191 | 21 => 192 | 22 => 193 | 23 => 194 | 24 => 195 | 25 => 196 | 26 => 197 | 27 => 198 | 46 => 201 | 47 => 202 | 48 => 203 | 49 => 204 | 50 => 205 | 57 => 206 | n => n,fun | 22 => 183 | 24 => 9 | 25 => 148 | 3 => 3 | 39 => 117 | 0 => 0 | 53 => 115 | 55 => 54 | 4 => 4 | 46 => 202 | 45 => 201 | 50 => 206 | 5 => 5 | 9 => 9 | 66 => 210 | 70 => 214 | 76 => 216 | 77 => 217 | n => n,fun | n => n⟩

theorem Tryz.laysSlF06_f36:Go.Proofs.SlLaysF0.n6 Tryz.prog Tryz.laysSlF06_f36_ren:={
 mixed:=by kernel_rfl
 f6:=⟨Tryz.f182.name,by decide,Tryz.func182.trans (congrArg some (by kernel_rfl))⟩
 f14:=⟨Tryz.f188.name,by decide,Tryz.func188.trans (congrArg some (by kernel_rfl))⟩
 f15:=Tryz.func189.trans (congrArg some (by kernel_rfl))
 f20:=⟨Tryz.f191.name,by decide,Tryz.func191.trans (congrArg some (by kernel_rfl))⟩
 f21:=⟨Tryz.f192.name,by decide,Tryz.func192.trans (congrArg some (by kernel_rfl))⟩
 f22:=⟨Tryz.f193.name,by decide,Tryz.func193.trans (congrArg some (by kernel_rfl))⟩
 f23:=⟨Tryz.f194.name,by decide,Tryz.func194.trans (congrArg some (by kernel_rfl))⟩
 f24:=⟨Tryz.f195.name,by decide,Tryz.func195.trans (congrArg some (by kernel_rfl))⟩
 f25:=⟨Tryz.f196.name,by decide,Tryz.func196.trans (congrArg some (by kernel_rfl))⟩
 f26:=⟨Tryz.f197.name,by decide,Tryz.func197.trans (congrArg some (by kernel_rfl))⟩
 f27:=⟨Tryz.f198.name,by decide,Tryz.func198.trans (congrArg some (by kernel_rfl))⟩
 f28:=Tryz.func199.trans (congrArg some (by kernel_rfl))
 f29:=Tryz.func200.trans (congrArg some (by kernel_rfl))
 f46:=⟨Tryz.f201.name,by decide,Tryz.func201.trans (congrArg some (by kernel_rfl))⟩
 f47:=Tryz.func202.trans (congrArg some (by kernel_rfl))
 f48:=Tryz.func203.trans (congrArg some (by kernel_rfl))
 f49:=⟨Tryz.f204.name,by decide,Tryz.func204.trans (congrArg some (by kernel_rfl))⟩
 f50:=⟨Tryz.f205.name,by decide,Tryz.func205.trans (congrArg some (by kernel_rfl))⟩
 f57:=⟨Tryz.f206.name,by decide,Tryz.func206.trans (congrArg some (by kernel_rfl))⟩
 t0:=Tryz.underlying0
 a0:=Tryz.isAgg0
 z0:=Tryz.sizeOf0
 v0:=Tryz.zeroValue0
 t3:=Tryz.underlying3
 a3:=Tryz.isAgg3
 z3:=Tryz.sizeOf3
 v3:=Tryz.zeroValue3
 t4:=Tryz.underlying4
 a4:=Tryz.isAgg4
 z4:=Tryz.sizeOf4
 v4:=Tryz.zeroValue4
 t5:=Tryz.underlying5
 a5:=Tryz.isAgg5
 z5:=Tryz.sizeOf5
 v5:=Tryz.zeroValue5
 t9:=Tryz.underlying9
 a9:=Tryz.isAgg9
 z9:=Tryz.sizeOf9
 v9:=Tryz.zeroValue9
 t22:=Tryz.underlying183
 a22:=Tryz.isAgg183
 z22:=Tryz.sizeOf183
 v22:=Tryz.zeroValue183
 t25:=Tryz.underlying148
 a25:=Tryz.isAgg148
 z25:=Tryz.sizeOf148
 v25:=Tryz.zeroValue148
 t39:=Tryz.underlying117
 a39:=Tryz.isAgg117
 z39:=Tryz.sizeOf117
 v39:=Tryz.zeroValue117
 t45:=Tryz.underlying201
 a45:=Tryz.isAgg201
 z45:=Tryz.sizeOf201
 v45:=Tryz.zeroValue201
 t46:=Tryz.underlying202
 a46:=Tryz.isAgg202
 z46:=Tryz.sizeOf202
 v46:=Tryz.zeroValue202
 t50:=Tryz.underlying206
 a50:=Tryz.isAgg206
 z50:=Tryz.sizeOf206
 v50:=Tryz.zeroValue206
 t53:=Tryz.underlying115
 a53:=Tryz.isAgg115
 z53:=Tryz.sizeOf115
 v53:=Tryz.zeroValue115
 t55:=Tryz.underlying54
 a55:=Tryz.isAgg54
 z55:=Tryz.sizeOf54
 v55:=Tryz.zeroValue54
 t66:=Tryz.underlying210
 a66:=Tryz.isAgg210
 z66:=Tryz.sizeOf210
 v66:=Tryz.zeroValue210
 t70:=Tryz.underlying214
 a70:=Tryz.isAgg214
 z70:=Tryz.sizeOf214
 v70:=Tryz.zeroValue214
 t76:=Tryz.underlying216
 a76:=Tryz.isAgg216
 z76:=Tryz.sizeOf216
 v76:=Tryz.zeroValue216
 t77:=Tryz.underlying217
 a77:=Tryz.isAgg217
 z77:=Tryz.sizeOf217
 v77:=Tryz.zeroValue217 }

open Go.RowKit Go.Lib Go.Sort in
theorem Tryz.slices_SortFunc_none {α:Type} [Inhabited α] (p:Option Addr) (cap:Nat) (fv:Value) (w:World) :
  Calls Tryz.prog 182 #[.slice p 0 cap,fv] w fun e w' => e=.returned (.tuple #[])∧w'=w:=AnyF.slices_SortFunc_none Tryz.laysSlF06_f36 p cap fv w

open Go.RowKit Go.Lib Go.Sort in
theorem Tryz.slices_SortFunc_total {α:Type} [Inhabited α] (enc:α→Value) (h1:OneCell enc) (cf:α→α→Int) (hO:SWO (ltOf cf)) (g:Nat) (cb:Array Value) (blk off cap:Nat) (d:Array α) (w:World) (eg:∀ args w,(callFunc g args).run Tryz.prog w=.ok (.enter g args) w) (hcmp:CmpLays1 Tryz.prog g cb enc cf blk off d.size w) (hH:Holds enc w blk off d) (hblk:blk < w.heap.size) (hsz:d.size < 4611686018427387904) (hT:∀ x y,(ltOf cf) x y=false→(ltOf cf) y x=false→x=y) :
  Calls Tryz.prog 182 #[.slice (some ⟨blk,off,none⟩) d.size cap,.func (.func g) #[] cb] w fun e w' =>
   e=.returned (.tuple #[])∧∃ n os,w'=sortWorld enc w blk off n (d.toList.mergeSort fun x y => !(ltOf cf) y x).toArray os:=Any.slices_SortFunc_total Tryz.laysSlF6_f36 enc h1 cf hO g cb blk off cap d w eg hcmp hH hblk hsz hT
end
section
open Go.RowKit Go.Lib

theorem icmp (x y:Int) (w:World):Calls Tryz.prog 145 #[.int .i64 x,.int .i64 y] w fun e w' => e=.returned (.int .i64 (compareInt x y))∧w=w' :=
 (Tryz.cmp_Compare_int x y w).mono fun _ _ ⟨he,hw⟩ => ⟨he,hw.symm⟩

theorem scmp (a b:List UInt8) (w:World):Calls Tryz.prog 146 #[.string ⟨a.toArray⟩,.string ⟨b.toArray⟩] w fun e w' => e=.returned (.int .i64 (compareBytes a b))∧w=w' :=
 (Tryz.strings_Compare ⟨a.toArray⟩ ⟨b.toArray⟩ w).mono fun _ _ ⟨he,hw⟩ => ⟨by simpa using he,hw.symm⟩

def orI (x y:Int):Int:=if x=0 then y else x

theorem or_any (B:Nat) (x y:Int) (w:World) (k0:w.cell? ⟨B,0,none⟩=some (.int .i64 x)) (k1:w.cell? ⟨B,1,none⟩=some (.int .i64 y)) :
  Calls Tryz.prog 144 #[.slice (some ⟨B,0,none⟩) 2 2] w fun e w' => e=.returned (.int .i64 (orI x y))∧w=w':=by
 by_cases hx:x=0
 ·subst hx
  by_cases hy:y=0
  ·subst hy
   go_enter Tryz.func144,Tryz.ntmps144
   go_wp2_with fail
   refine wp_loop_rounds 3 ?_
   rw [rounds_succ]
   go_wp2_with fail
   rw [rounds_succ]
   go_wp2_with fail
   rw [rounds_succ]
   go_wp2_with fail
   go_ret
   exact⟨rfl,rfl⟩
  ·have t1:(y != 0)=true:=by simp [hy]
   clear hy
   go_enter Tryz.func144,Tryz.ntmps144
   go_wp2_with fail
   refine wp_loop_rounds 3 ?_
   rw [rounds_succ]
   go_wp2_with fail
   rw [rounds_succ]
   go_wp2_with fail
   go_ret
   exact⟨rfl,rfl⟩
 ·have t1:(x != 0)=true:=by simp [hx]
  have HX:Hid (orI x y=x):=if_neg hx
  clear hx
  go_enter Tryz.func144,Tryz.ntmps144
  go_wp2_with fail
  refine wp_loop_rounds 3 ?_
  rw [rounds_succ]
  go_wp2_with fail
  go_ret
  exact⟨by rw [HX.out]; rfl,rfl⟩

theorem idCmp_or (a b:List UInt8):idCmp a b=orI (compareInt a.length b.length) (compareBytes a b):=by
 unfold idCmp compareInt orI
 by_cases h1:a.length < b.length
 ·have:(a.length:Int) < b.length:=by omega
  simp [h1,this]
 ·by_cases h2:b.length < a.length
  ·have h1':¬ (a.length:Int) < b.length:=by omega
   have h2':(b.length:Int) < a.length:=by omega
   simp [h1,h2,h1',h2']
  ·have h1':¬ (a.length:Int) < b.length:=by omega
   have h2':¬ (b.length:Int) < a.length:=by omega
   simp [h1,h2,h1',h2']

theorem compare_any (a b:List UInt8) (w:World) :
  Calls Tryz.prog 115 #[.string ⟨a.toArray⟩,.string ⟨b.toArray⟩] w fun e w' => e=.returned (.int .i64 (idCmp a b))∧∃ o,w'=w.alloc o:=by
 have HI:=hZq (idCmp_or a b)
 have H1:=hZq (icmp a.length b.length)
 have H2:=hZq (scmp a b)
 obtain⟨x,hx⟩ : ∃ x,compareInt a.length b.length=x:=⟨_,rfl⟩
 obtain⟨y,hy⟩ : ∃ y,compareBytes a b=y:=⟨_,rfl⟩
 rw [hx] at H1 HI
 rw [hy] at H2 HI
 clear hx hy
 go_enter Tryz.func115,Tryz.ntmps115
 go_wp2_with fail
 refine (H1.out _).mono ?_
 rintro e w' ⟨rfl,rfl⟩
 go_wp2_with fail
 refine (H2.out _).mono ?_
 rintro e w' ⟨rfl,rfl⟩
 go_wp2_with fail
 refine (or_any _ x y _ (by simp) (by simp)).mono ?_
 rintro e w' ⟨rfl,rfl⟩
 go_wp2_with fail
 go_ret
 exact⟨by rw [HI.out]; rfl,_,rfl⟩

theorem compare_eq (a b:List UInt8) {n:Int} (h:Hid (idCmp a b=n)) (w:World) :
  Calls Tryz.prog 115 #[.string ⟨a.toArray⟩,.string ⟨b.toArray⟩] w fun e w' => e=.returned (.int .i64 n)∧Below w.heap.size w w':=by
 have h1:=h.out
 subst h1
 exact (compare_any a b w).mono fun _ _ ⟨he,o,hw⟩ => ⟨he,by rw [hw]; exact (Below.refl _ _).alloc (Nat.le_refl _) _⟩

theorem less_eq (a b:List UInt8) {r:Bool} (h:Hid (idLess a b=r)) (w:World) :
  Calls Tryz.prog 92 #[.string ⟨a.toArray⟩,.string ⟨b.toArray⟩] w fun e w' => e=.returned (.bool r)∧Below w.heap.size w w':=by
 obtain⟨n,hn⟩ : ∃ n,Hid (idCmp a b=n):=⟨_,rfl⟩
 have hr:Hid (decide (n < 0)=r):=by show _=_; rw [← hn.out]; exact h.out
 go_enter Tryz.func92,Tryz.ntmps92
 go_wp2_with fail
 refine (compare_eq a b hn _).mono ?_
 rintro e w1 ⟨rfl,hb1⟩
 have B1:=hZq hb1
 clear hb1
 go_wp2_with fail
 go_ret
 exact⟨by rw [← hr.out]; rfl,B1.out⟩

theorem rless_eq (a b:List UInt8) {r:Bool} (h:Hid (idLess a b=r)) (w:World) :
  Calls Tryz.prog 62 #[.string ⟨a.toArray⟩,.string ⟨b.toArray⟩] w fun e w' => e=.returned (.bool r)∧w=w':=by
 have hd:=idLess_doc a b
 rw [h.out] at hd
 have HD:=hZq hd
 clear hd h
 by_cases h1:a.length < b.length
 ·have hr:Hid (r=true):=by show _=_; rw [HD.out]; simp [h1]
  clear HD
  go_enter Tryz.func62,Tryz.ntmps62
  go_wp2_with fail
  go_ret
  exact⟨by rw [hr.out]; rfl,rfl⟩
 ·by_cases h2:a.length=b.length
  ·have hr:Hid (r=Op.bytesLess a b):=by show _=_; rw [HD.out]; simp [h2]
   have t1:((a.length:Int) == (b.length:Int))=true:=by rw [h2]; simp
   have t2:decide (a.length < b.length)=false:=by simp; omega
   clear HD h1 h2
   go_enter Tryz.func62,Tryz.ntmps62
   go_wp2_with fail
   go_ret
   exact⟨by rw [hr.out]; rfl,rfl⟩
  ·have hr:Hid (r=false):=by show _=_; rw [HD.out]; simp [h1,h2]
   have t1:((a.length:Int) == (b.length:Int))=false:=by simp; omega
   have t2:decide (a.length < b.length)=false:=by simp; omega
   clear HD h1 h2
   go_enter Tryz.func62,Tryz.ntmps62
   go_wp2_with fail
   go_ret
   exact⟨by rw [hr.out]; rfl,rfl⟩
end
section
open Go.RowKit

def runeLc (r:Int):Bool:=decide (97≤r) && decide (r≤122)
def runeIn (r:Int):Bool:=(decide (48≤r) && decide (r≤57)) || decide (r=45)

theorem letter_eq (r:Int) {b:Bool} (h:Hid (runeLc r=b)) (w:World) :
  Calls Tryz.prog 112 #[.int .i32 r] w fun e w' => e=.returned (.bool b)∧w=w':=by
 have h':=h.out
 unfold runeLc at h'
 clear h
 by_cases h1:97≤r
 ·by_cases h2:r≤122
  ·obtain rfl:b=true:=by rw [← h']; simp [h1,h2]
   clear h'
   go_enter Tryz.func112,Tryz.ntmps112
   go_wp2_with fail
   go_ret
   exact⟨by first | rfl | simp_all,rfl⟩
  ·obtain rfl:b=false:=by rw [← h']; simp [h2]
   have h3:122 < r:=by omega
   clear h' h2
   go_enter Tryz.func112,Tryz.ntmps112
   go_wp2_with fail
   go_ret
   exact⟨by first | rfl | simp_all,rfl⟩
 ·obtain rfl:b=false:=by rw [← h']; simp [h1]
  have h3:r < 97:=by omega
  clear h' h1
  go_enter Tryz.func112,Tryz.ntmps112
  go_wp2_with fail
  go_ret
  exact⟨by first | rfl | simp_all,rfl⟩

theorem inner_eq (r:Int) {b:Bool} (h:Hid (runeIn r=b)) (w:World) :
  Calls Tryz.prog 113 #[.int .i32 r] w fun e w' => e=.returned (.bool b)∧w=w':=by
 have h':=h.out
 unfold runeIn at h'
 clear h
 by_cases h0:r=45
 ·subst h0
  obtain rfl:b=true:=by rw [← h']; decide
  clear h'
  go_enter Tryz.func113,Tryz.ntmps113
  go_wp2_with fail
  go_ret
  exact⟨rfl,rfl⟩
 ·have t0:(r == 45)=false:=by simpa using h0
  by_cases h1:48≤r
  ·by_cases h2:r≤57
   ·obtain rfl:b=true:=by rw [← h']; simp [h1,h2]
    clear h' h0
    go_enter Tryz.func113,Tryz.ntmps113
    go_wp2_with fail
    go_ret
    exact⟨rfl,rfl⟩
   ·obtain rfl:b=false:=by rw [← h']; simp [h2,h0]
    have h3:decide (r≤57)=false:=by simp; omega
    clear h' h2 h0
    go_enter Tryz.func113,Tryz.ntmps113
    go_wp2_with fail
    go_ret
    exact⟨rfl,rfl⟩
  ·obtain rfl:b=false:=by rw [← h']; simp [h1,h0]
   have h3:r < 48:=by omega
   clear h' h1 h0
   go_enter Tryz.func113,Tryz.ntmps113
   go_wp2_with fail
   go_ret
   exact⟨rfl,rfl⟩

theorem runeLc_byte (b:UInt8):runeLc (b.toNat:Int)=lcOk b:=by
 unfold runeLc lcOk
 rw [Bool.eq_iff_iff]
 simp
 omega

theorem runeIn_byte (b:UInt8):runeIn (b.toNat:Int)=dgOk b:=by
 unfold runeIn dgOk
 rw [Bool.eq_iff_iff]
 simp
 omega

theorem rune_high {r:Nat} (h:128≤r):runeLc (r:Int)=false∧runeIn (r:Int)=false:=by
 unfold runeLc runeIn
 constructor
 ·rw [Bool.eq_false_iff]; simp; omega
 ·rw [Bool.eq_false_iff]; simp; omega

theorem all_succ {l:List UInt8} {k:Nat} {b:UInt8} (hb:l[k]?=some b) (p:UInt8→Bool):(l.take (k+1)).all p=((l.take k).all p && p b):=by
 obtain⟨h1,h2⟩:=List.getElem?_eq_some_iff.1 hb
 rw [List.take_succ_eq_append_getElem h1,h2,List.all_append]
 simp

theorem idIs_bad {l:List UInt8} {k:Nat} {b:UInt8} (hb:l[k]?=some b) (h:inOk b=false):idIs l=false:=by
 rw [Bool.eq_false_iff]
 intro h'
 have:=List.all_eq_true.1 (idIs_parts h').2.2.2 b (List.mem_of_getElem? hb)
 rw [h] at this
 cases this

theorem idIs_first {l:List UInt8} {b:UInt8} (hb:l[0]?=some b) (h:lcOk b=false):idIs l=false:=by
 rw [Bool.eq_false_iff]
 intro h'
 have:=(idIs_parts h').2.2.1
 rw [List.getD,hb] at this
 simp [h] at this

theorem is_any (l:List UInt8) (hl:l.length≤4294967296) (w:World) :
  Calls Tryz.prog 90 #[.string ⟨l.toArray⟩] w fun e w' => e=.returned (.bool (idIs l))∧Below w.heap.size w w':=by
 by_cases h0:l=[]
 ·subst h0
  go_enter Tryz.func90,Tryz.ntmps90
  go_wp2_with fail
  go_ret
  exact⟨rfl,Below.refl _ _⟩
 ·have t0:(l == [])=false:=by simpa using h0
  have hpos:1≤l.length:=by
   rcases l with _ | ⟨_,_⟩
   ·exact absurd rfl h0
   ·simp
  by_cases h16:16 < l.length
  ·have HR:=hZq (idIs_long h16)
   have H0:=hZq h0
   clear h0
   go_enter Tryz.func90,Tryz.ntmps90
   go_wp2_with fail
   go_ret
   exact⟨by rw [HR.out]; rfl,Below.refl _ _⟩
  ·have H0:=hZq h0
   clear h0
   go_enter Tryz.func90,Tryz.ntmps90
   go_wp2_with fail
   go_loopw [] (fun wr => ∃ pos:Nat,pos≤l.length∧Hid (wr.heap[w.heap.size]?=some (.stringIter ⟨l.toArray⟩ pos))∧Below w.heap.size w wr∧Hid (pos=0∨lcOk (l.getD 0 0)=true)∧Hid ((l.take pos).all inOk=true)) (fun wr => l.length - wr.iterPos w.heap.size)
   case atStart => exact⟨0,by omega,World.iter_heap w _ 0,(Below.refl _ w).alloc (Nat.le_refl _) _,.inl rfl,by show _=_; simp⟩
   case round =>
    obtain⟨pos,hp,HI,hnx,HF,HA⟩:=hrel
    have HN:=hZq hnx
    have hpi:Hid (wr.iterPos w.heap.size=pos):=by show _=_; simp only [World.iterPos,HI.out]
    by_cases hlt:pos < l.length
    ·have hlt':pos < (⟨l.toArray⟩ : ByteArray).size:=by rw [size_bytes]; exact hlt
     obtain⟨b,hb⟩ : ∃ b:UInt8,(⟨l.toArray⟩ : ByteArray)[pos]'hlt'=b:=⟨_,rfl⟩
     have HB:Hid (l[pos]?=some b):=by rw [← hb]; exact bytes_at l pos hlt'
     have hb256:=b.toNat_lt
     by_cases h128:b.toNat < 128
     ·have hnext:=fun ty => Lib.run_next_ascii_at (P:=Tryz.prog) wr w.heap.size ⟨l.toArray⟩ pos ty HI.out hlt' (by rw [hb]; exact h128)
      rw [hb] at hnext
      have HI2:=hZq (Lib.iterAt_heap wr w.heap.size ⟨l.toArray⟩ pos (pos+1) HI.out)
      have HN2:=hZq (Lib.below_iterAt hnx (k:=w.heap.size) (Nat.le_refl _) ⟨l.toArray⟩ (pos+1))
      have hp2:Hid ((wr.iterAt w.heap.size ⟨l.toArray⟩ (pos+1)).iterPos w.heap.size=pos+1):=by show _=_; simp only [World.iterPos,HI2.out]
      clear hb hnx
      cases hl:lcOk b with
      | true =>
       have HL:Hid (runeLc (b.toNat:Int)=true):=by show _=_; rw [runeLc_byte]; exact hl
       have HA2:Hid ((l.take (pos+1)).all inOk=true):=by show _=_; rw [all_succ HB.out,HA.out]; simp [inOk,hl]
       have HF2:Hid (pos+1=0∨lcOk (l.getD 0 0)=true):=by
        show _∨_
        right
        rcases HF.out with h | h
        ·subst h; rw [List.getD,HB.out]; exact hl
        ·exact h
       clear hl
       go_wp2_with fail
       refine (letter_eq _ HL _).mono ?_
       rintro e w' ⟨rfl,rfl⟩
       go_wp2_with fail
       go_roundw
       case rel => exact⟨pos+1,by omega,HI2,HN2.out,HF2,HA2⟩
       case measure => rw [hp2.out,hpi.out]; omega
      | false =>
       have HL:Hid (runeLc (b.toNat:Int)=false):=by show _=_; rw [runeLc_byte]; exact hl
       by_cases hz:pos=0
       ·have HR:Hid (idIs l=false):=by show _=_; subst hz; exact idIs_first HB.out hl
        subst hz
        clear hl
        go_wp2_with fail
        refine (letter_eq _ HL _).mono ?_
        rintro e w' ⟨rfl,rfl⟩
        go_wp2_with fail
        go_ret
        exact⟨by rw [HR.out]; rfl,HN2.out⟩
       ·have hz':0 < pos:=by omega
        clear hz
        cases hd:dgOk b with
        | true =>
         have HD:Hid (runeIn (b.toNat:Int)=true):=by show _=_; rw [runeIn_byte]; exact hd
         have HA2:Hid ((l.take (pos+1)).all inOk=true):=by show _=_; rw [all_succ HB.out,HA.out]; simp [inOk,hd]
         have HF2:Hid (pos+1=0∨lcOk (l.getD 0 0)=true):=by
          show _∨_
          right
          rcases HF.out with h | h
          ·omega
          ·exact h
         clear hl hd
         go_wp2_with fail
         refine (letter_eq _ HL _).mono ?_
         rintro e w' ⟨rfl,rfl⟩
         go_wp2_with fail
         refine (inner_eq _ HD _).mono ?_
         rintro e w' ⟨rfl,rfl⟩
         go_wp2_with fail
         go_roundw
         case rel => exact⟨pos+1,by omega,HI2,HN2.out,HF2,HA2⟩
         case measure => rw [hp2.out,hpi.out]; omega
        | false =>
         have HD:Hid (runeIn (b.toNat:Int)=false):=by show _=_; rw [runeIn_byte]; exact hd
         have HR:Hid (idIs l=false):=by show _=_; exact idIs_bad HB.out (by simp [inOk,hl,hd])
         clear hl hd
         go_wp2_with fail
         refine (letter_eq _ HL _).mono ?_
         rintro e w' ⟨rfl,rfl⟩
         go_wp2_with fail
         refine (inner_eq _ HD _).mono ?_
         rintro e w' ⟨rfl,rfl⟩
         go_wp2_with fail
         go_ret
         exact⟨by rw [HR.out]; rfl,HN2.out⟩
     ·obtain⟨hh1,_⟩:=decode_high ⟨l.toArray⟩ pos hlt' (by rw [hb]; omega)
      have hnext:=fun ty => Lib.run_next_any_at (P:=Tryz.prog) wr w.heap.size ⟨l.toArray⟩ pos ty HI.out hlt'
      have HN2:=hZq (Lib.below_iterAt hnx (k:=w.heap.size) (Nat.le_refl _) ⟨l.toArray⟩ (pos+(Utf8.decode ⟨l.toArray⟩ pos).2))
      have HR:Hid (idIs l=false):=by show _=_; exact idIs_high (List.mem_of_getElem? HB.out) (by omega)
      obtain⟨r,hr⟩ : ∃ r,(Utf8.decode ⟨l.toArray⟩ pos).1=r:=⟨_,rfl⟩
      obtain⟨q,hq⟩ : ∃ q,pos+(Utf8.decode ⟨l.toArray⟩ pos).2=q:=⟨_,rfl⟩
      rw [hr,hq] at hnext
      rw [hq] at HN2
      rw [hr] at hh1
      have HL:=hZq (rune_high hh1).1
      have HD:=hZq (rune_high hh1).2
      clear hr hq hb hnx
      go_wp2_with fail
      refine (letter_eq _ HL _).mono ?_
      rintro e w' ⟨rfl,rfl⟩
      by_cases hz:pos=0
      ·subst hz
       go_wp2_with fail
       go_ret
       exact⟨by rw [HR.out]; rfl,HN2.out⟩
      ·have hz':0 < pos:=by omega
       clear hz
       go_wp2_with fail
       refine (inner_eq _ HD _).mono ?_
       rintro e w' ⟨rfl,rfl⟩
       go_wp2_with fail
       go_ret
       exact⟨by rw [HR.out]; rfl,HN2.out⟩
    ·obtain rfl:pos=l.length:=by omega
     have hnext:=fun ty => Lib.run_next_end_at (P:=Tryz.prog) wr w.heap.size ⟨l.toArray⟩ l.length ty HI.out (by rw [size_bytes]; omega)
     have HR:Hid (idIs l=true):=by
      show _=_
      have ha:=HA.out
      rw [List.take_length] at ha
      refine idIs_mk hpos (by omega) ?_ ha
      rcases HF.out with h | h
      ·omega
      ·exact h
     clear hnx
     go_wp2_with fail
     go_ret
     exact⟨by rw [HR.out]; rfl,HN.out⟩
end
section
open Go.RowKit Go.Lib

def smallR (r:Int):Int:=if 65≤r∧r≤90 then r+32 else r

def FoldAt (l:List UInt8) (pos:Nat) (acc:List UInt8):Prop :=
 (pos≤l.length∧acc=idLow (l.take pos))∨((∃ b ∈ acc,128≤b.toNat)∧∃ b ∈ l,128≤b.toNat)

theorem ownsRowF_later {w w':World} {base e size:Nat} {v:Value} {n:Nat} {xs:List Value} (h:w.ownsRowF base e size v n xs) (hb:Below w.heap.size w w'):w'.ownsRowF base e size v n xs:=by
 refine ⟨h.1,?_⟩
 rcases h.2 with h' | ⟨g,cap,cur,fz,h1,h2,h3,h4⟩
 ·exact .inl h'
 ·exact .inr ⟨g,cap,cur,fz,h1,h2,by rw [hb.block g (Array.getElem?_eq_some_iff.1 h3).1]; exact h3,h4⟩

theorem builderAt_later {T e B b:Nat} {p:Value} {bs:List Value} {w w':World} (h:BuilderAtF T e B b p bs w) (hb:Below w.heap.size w w'):BuilderAtF T e B b p bs w':=by
 obtain⟨h1,v,h2,h3,h4⟩:=h
 exact⟨h1,v,by rw [hb.block b (Array.getElem?_eq_some_iff.1 h2).1]; exact h2,ownsRowF_later h3 hb,h4⟩

theorem builder_later {T e B b:Nat} {bs:List Value} {w w':World} (h:IsBuilderF T e B b bs w) (hb:Below w.heap.size w w'):IsBuilderF T e B b bs w' :=
 h.elim (fun x => .inl (builderAt_later x hb)) (fun x => .inr (builderAt_later x hb))

theorem is_eq (l:List UInt8) (hl:l.length≤4294967296) {r:Bool} (h:Hid (idIs l=r)) (w:World) :
  Calls Tryz.prog 90 #[.string ⟨l.toArray⟩] w fun e w' => e=.returned (.bool r)∧Below w.heap.size w w':=by
 have:=is_any l hl w
 rwa [h.out] at this
end
section
open Go.RowKit

theorem vtake_short {l:List UInt8} {p m:Int} {t:List UInt8} {f er:Nat} (h:vtake l p m=(t,f,er)):t.length≤l.length:=by
 unfold vtake at h
 generalize vget l p=g at h
 obtain⟨n,g,e⟩:=g
 dsimp only at h
 repeat' split at h
 all_goals
  simp only [Prod.mk.injEq] at h
  obtain⟨rfl,_,_⟩:=h
  simp
 try omega

theorem idput_eq (l:List UInt8) (hl:l.length≤4294967296) {t:List UInt8} {r:Bool} (h:Hid (idPut l=(t,r))) (w:World) :
  Calls Tryz.prog 154 #[.string ⟨l.toArray⟩] w fun e w' => e=.returned (.tuple #[.string ⟨t.toArray⟩,.bool r])∧Below w.heap.size w w':=by
 have e:=h.out
 unfold idPut at e
 clear h
 cases hi:idIs l with
 | false =>
  rw [hi] at e
  simp only [Bool.false_eq_true,if_false,Prod.mk.injEq] at e
  obtain⟨rfl,rfl⟩:=e
  have HI:=hZq hi
  clear hi
  go_enter Tryz.func154,Tryz.ntmps154
  go_wp2_with fail
  refine (is_eq l hl HI _).mono ?_
  rintro e w1 ⟨rfl,hb1⟩
  go_wp2_with fail
  go_ret2
  exact⟨rfl,hb1⟩
 | true =>
  rw [hi] at e
  simp only [if_true,Prod.mk.injEq] at e
  obtain⟨rfl,rfl⟩:=e
  have HI:=hZq hi
  clear hi
  go_enter Tryz.func154,Tryz.ntmps154
  go_wp2_with fail
  refine (is_eq l hl HI _).mono ?_
  rintro e w1 ⟨rfl,hb1⟩
  go_wp2_with fail
  refine (text_any l hl _).mono ?_
  rintro e w2 ⟨rfl,hb2⟩
  go_wp2_with fail
  go_ret2
  exact⟨rfl,below2' hb1 hb2⟩

theorem take_eq16 (l:List UInt8) (hl:l.length≤4294967296) (p:Int) (w:World) {t:List UInt8} {f er:Nat} (h:Hid (vtake l p 16=(t,f,er))) :
  Calls Tryz.prog 170 #[.string ⟨l.toArray⟩,.int .i64 p,.int .i64 16] w fun e w' => e=.returned (.tuple #[.string ⟨t.toArray⟩,.int .i64 f,.int .i64 er])∧w=w':=take_eq l hl p 16 (by decide) w h

theorem idtake_eq (l:List UInt8) (hl:l.length≤4294967296) (p:Int) {t:List UInt8} {f er:Nat} (h:Hid (idTake l p=(t,f,er))) (w:World) :
  Calls Tryz.prog 156 #[.string ⟨l.toArray⟩,.int .i64 p] w fun e w' => e=.returned (.tuple #[.string ⟨t.toArray⟩,.int .i64 f,.int .i64 er])∧Below w.heap.size w w':=by
 obtain⟨u,g,ue,hu⟩ : ∃ u g ue,vtake l p 16=(u,g,ue):=⟨_,_,_,rfl⟩
 have e:=h.out
 unfold idTake at e
 rw [hu] at e
 dsimp only at e
 have hs:=vtake_short hu
 have HU:=hZq hu
 clear h hu
 by_cases he:ue=0
 ·subst he
  rw [if_neg (by simp)] at e
  cases hi:idIs u with
  | false =>
   rw [hi] at e
   simp only [Bool.false_eq_true,if_false,Prod.mk.injEq] at e
   obtain⟨rfl,rfl,rfl⟩:=e
   have HI:=hZq hi
   clear hi
   go_enter Tryz.func156,Tryz.ntmps156
   go_wp2_with fail
   refine (take_eq16 l hl p _ HU).mono ?_
   rintro e w1 ⟨rfl,rfl⟩
   go_wp2_with fail
   refine (is_eq u (by omega) HI _).mono ?_
   rintro e w1 ⟨rfl,hb1⟩
   go_wp2_with fail
   go_ret3
   exact⟨rfl,hb1⟩
  | true =>
   rw [hi] at e
   simp only [if_true,Prod.mk.injEq] at e
   obtain⟨rfl,rfl,rfl⟩:=e
   have HI:=hZq hi
   clear hi
   go_enter Tryz.func156,Tryz.ntmps156
   go_wp2_with fail
   refine (take_eq16 l hl p _ HU).mono ?_
   rintro e w1 ⟨rfl,rfl⟩
   go_wp2_with fail
   refine (is_eq u (by omega) HI _).mono ?_
   rintro e w1 ⟨rfl,hb1⟩
   go_wp2_with fail
   go_ret3
   exact⟨rfl,hb1⟩
 ·rw [if_pos he] at e
  simp only [Prod.mk.injEq] at e
  obtain⟨rfl,rfl,rfl⟩:=e
  have t1:((ue:Int) != 0)=true:=by simp; omega
  clear he
  go_enter Tryz.func156,Tryz.ntmps156
  go_wp2_with fail
  refine (take_eq16 l hl p _ HU).mono ?_
  rintro e w1 ⟨rfl,rfl⟩
  go_wp2_with fail
  go_ret3
  exact⟨rfl,Below.refl _ _⟩
end
section
open Go.RowKit
end
end Go.Proofs.YtmpigdokghngiaaGreat
