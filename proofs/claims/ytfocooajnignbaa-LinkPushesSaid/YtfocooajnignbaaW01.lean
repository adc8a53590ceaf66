/-
 TEXTS OF THE PROOF, one behind the other: VarPure, IdPure, ValPure, DigPure, QuePure, Kit, VarPut, VarGet, VarRget, VarTake, DigRow, Shelf, IdCmp, IdIs, IdFold, IdTake, Bytes.
-/
import Derived.Lib.Bytealg
import Derived.Sort.Statements
import Derived.Shelf.SlSortCmp.Insertion
import Derived.Lib.SlicesCompact
import Derived.WalkKit
import Derived.BigQuiet
import Derived.Lib.QuietBelow
import Derived.Test.YtfocooajnignbaaRows
import Derived.Deep.DeepMust
import Derived.Lib.Hide
import Derived.Laws.StructEq
import Derived.Laws.AppendOwnNone
import Derived.Laws.OwnMore
import Derived.Shelf.Strings.Builder1
import Derived.Shelf.Small.Bits
import Derived.Shelf.Small.Strs
import Derived.Shelf.Small.Wraps
import Derived.Shelf.Strings.BuilderF
import Derived.Shelf.Strings.BuilderK
import Derived.Shelf.Strings.BuilderRune
import Derived.Shelf.Slices.CompactS
import Derived.Shelf.SlicesE.Compact
import Derived.Shelf.SlSortCmp.SiftDown1
import Derived.Shelf.SlSortCmp.HeapSort1
import Derived.Shelf.SlSortCmp.Insertion1
import Derived.Shelf.SlSortCmp.Median1
import Derived.Shelf.SlSortCmp.Pivot1
import Derived.Shelf.SlSortCmp.ReverseRange1
import Derived.Shelf.SlSortCmp.PartialInsertion1
import Derived.Shelf.SlSortCmp.PartitionEqual1
import Derived.Shelf.SlSortCmp.Partition1
import Derived.Shelf.SlSortCmp.Pdq1
import Derived.Shelf.SlSortCmp.Whole1
import Derived.Shelf.SlSortCmp.NoneTotal
import Derived.Lib.OthersKept
import Derived.Lib.ConvBytes
import Derived.Below

set_option maxHeartbeats 12800000
set_option maxRecDepth 100000

namespace Go.Proofs.Ytfocooajnignbaa
theorem hZq {p:Prop} (h:p):RowKit.Hid p:=h
end Go.Proofs.Ytfocooajnignbaa

namespace Go.Proofs.Ytfocooajnignbaa
section

def u8of (n:Nat):UInt8:=UInt8.ofNat n

def vputF:Nat→Nat→List UInt8
 | 0,n => [u8of n]
 | k+1,n => if n < 128 then [u8of n] else u8of (n % 128+128) :: vputF k (n / 128)

def vput (n:Nat):List UInt8:=vputF 9 n

theorem vputF_lt {k n:Nat} (h:n < 128):vputF k n=[u8of n]:=by
 cases k <;> simp [vputF,h]

theorem vputF_succ:∀ (k n:Nat),n < 128 ^ (k+1)→vputF (k+1) n=vputF k n
 | 0,n,h => by
  have h':n < 128:=by simpa using h
  rw [vputF_lt h',vputF_lt h']
 | k+1,n,h => by
  by_cases h1:n < 128
  ·rw [vputF_lt h1,vputF_lt h1]
  ·rw [vputF,if_neg h1,vputF_succ k (n / 128) (by rw [Nat.pow_succ] at h; omega)]
   conv => rhs; rw [vputF,if_neg h1]

theorem vput_lt {n:Nat} (h:n < 128):vput n=[u8of n]:=vputF_lt h

theorem vput_ge {n:Nat} (h:128≤n) (hn:n < 18446744073709551616):vput n=u8of (n % 128+128) :: vput (n / 128):=by
 unfold vput
 rw [vputF,if_neg (by omega),vputF_succ 8 (n / 128) (by simp; omega)]

theorem vputF_len_le:∀ (k n:Nat),(vputF k n).length≤k+1
 | 0,n => by simp [vputF]
 | k+1,n => by
  unfold vputF
  split
  ·simp
  ·have:=vputF_len_le k (n / 128)
   simp; omega

theorem vput_len_le (n:Nat):(vput n).length≤10:=vputF_len_le 9 n

theorem vputF_len_pos (k n:Nat):1≤(vputF k n).length:=by
 cases k with
 | zero => simp [vputF]
 | succ k => unfold vputF; split <;> simp

theorem vput_len_pos (n:Nat):1≤(vput n).length:=vputF_len_pos 9 n

def vgetF (i:Nat):List UInt8→Nat × Nat × Nat
 | [] => (0,0,2)
 | b :: r =>
  if i=9∧1 < b.toNat then (0,0,3)
  else if b.toNat < 128 then (if b.toNat=0∧0 < i then (0,0,3) else (b.toNat,1,0))
  else
   if (vgetF (i+1) r).2.2=0 then (b.toNat % 128+128 * (vgetF (i+1) r).1,(vgetF (i+1) r).2.1+1,0)
   else (0,0,(vgetF (i+1) r).2.2)

def vget (s:List UInt8) (at':Int):Nat × Nat × Nat :=
 if at' < 0∨(s.length:Int) < at' then (0,0,1)
 else
  if (vgetF 0 (s.drop at'.toNat)).2.2=0 then ((vgetF 0 (s.drop at'.toNat)).1,at'.toNat+(vgetF 0 (s.drop at'.toNat)).2.1,0)
  else (0,0,(vgetF 0 (s.drop at'.toNat)).2.2)

theorem u8of_toNat {n:Nat} (h:n < 256):(u8of n).toNat=n:=by
 simp [u8of,UInt8.toNat_ofNat']; omega

def comb (i acc:Nat) (r:Nat × Nat × Nat):Nat × Nat × Nat:=if r.2.2=0 then (acc+128 ^ i * r.1,i+r.2.1,0) else (0,0,r.2.2)

def GetAt (l:List UInt8) (q i acc p sh:Nat):Prop:=acc < 128 ^ i∧p=q+i∧sh=7 * i∧comb i acc (vgetF i (l.drop p))=vgetF 0 (l.drop q)

def vtake (l:List UInt8) (p most:Int):List UInt8 × Nat × Nat :=
 if (vget l p).2.2 ≠ 0 then ([],0,(vget l p).2.2)
 else if most < 0∨most < ((vget l p).1:Int) then ([],0,3)
 else if l.length - (vget l p).2.1 < (vget l p).1 then ([],0,2)
 else ((l.drop (vget l p).2.1).take (vget l p).1,(vget l p).2.1+(vget l p).1,0)

def vflat (l:List Nat):List UInt8:=(l.map vput).flatten

def tflat (l:List (List UInt8)):List UInt8:=(l.map fun t => vput t.length ++ t).flatten
end
section
open Go.Lib Go.Sort

/-! ### Names -/

def lcOk (b:UInt8):Bool:=decide (97≤b.toNat) && decide (b.toNat≤122)
def dgOk (b:UInt8):Bool:=(decide (48≤b.toNat) && decide (b.toNat≤57)) || decide (b.toNat=45)
def inOk (b:UInt8):Bool:=lcOk b || dgOk b

def idIs (l:List UInt8):Bool:=decide (1≤l.length) && (decide (l.length≤16) && (lcOk (l.getD 0 0) && l.all inOk))

def low1 (b:UInt8):UInt8:=if 65≤b.toNat∧b.toNat≤90 then u8of (b.toNat+32) else b
def idLow (l:List UInt8):List UInt8:=l.map low1

def idFold (l:List UInt8):List UInt8 × Bool:=if idIs (idLow l)=true then (idLow l,true) else ([],false)
def idPut (l:List UInt8):List UInt8 × Bool:=if idIs l=true then (vput l.length ++ l,true) else ([],false)
def idTake (l:List UInt8) (p:Int):List UInt8 × Nat × Nat :=
 if (vtake l p 16).2.2 ≠ 0 then ([],0,(vtake l p 16).2.2) else if idIs (vtake l p 16).1=true then vtake l p 16 else ([],0,3)

theorem inOk_lt {b:UInt8} (h:inOk b=true):b.toNat < 128:=by
 simp [inOk,lcOk,dgOk] at h
 omega

theorem idIs_parts {l:List UInt8} (h:idIs l=true):1≤l.length∧l.length≤16∧lcOk (l.getD 0 0)=true∧l.all inOk=true:=by
 unfold idIs at h
 simp only [Bool.and_eq_true,decide_eq_true_eq] at h
 exact⟨h.1,h.2.1,h.2.2.1,h.2.2.2⟩

theorem idIs_mk {l:List UInt8} (h1:1≤l.length) (h2:l.length≤16) (h3:lcOk (l.getD 0 0)=true) (h4:l.all inOk=true):idIs l=true:=by
 unfold idIs
 simp only [Bool.and_eq_true,decide_eq_true_eq]
 exact⟨h1,h2,h3,h4⟩

theorem idIs_long {l:List UInt8} (h:16 < l.length):idIs l=false:=by
 rw [Bool.eq_false_iff]
 intro h'
 have:=(idIs_parts h').2.1
 omega

theorem idIs_high {l:List UInt8} {b:UInt8} (hb:b ∈ l) (h:128≤b.toNat):idIs l=false:=by
 rw [Bool.eq_false_iff]
 intro h'
 have:=inOk_lt (List.all_eq_true.1 (idIs_parts h').2.2.2 b hb)
 omega

/-! ### The order of names -/

def idCmp (a b:List UInt8):Int:=if a.length < b.length then -1 else if b.length < a.length then 1 else compareBytes a b

def idLess (a b:List UInt8):Bool:=decide (idCmp a b < 0)

theorem cb_swap:∀ a b:List UInt8,compareBytes b a=- compareBytes a b
 | [],[] => rfl
 | [],_ :: _ => rfl
 | _ :: _,[] => rfl
 | a :: xs,b :: ys => by
  unfold compareBytes
  by_cases h1:a < b
  ·have h2:¬ b < a:=fun h => by rw [UInt8.lt_iff_toNat_lt] at *; omega
   rw [if_pos h1,if_neg h2,if_pos h1]; rfl
  ·rw [if_neg h1]
   by_cases h2:b < a
   ·rw [if_pos h2,if_neg h1,if_pos h2]
   ·rw [if_neg h2,if_neg h2,if_neg h1]
    exact cb_swap xs ys

theorem cb_zero:∀ {a b:List UInt8},compareBytes a b=0→a=b
 | [],[],_ => rfl
 | [],_ :: _,h => by simp [compareBytes] at h
 | _ :: _,[],h => by simp [compareBytes] at h
 | a :: xs,b :: ys,h => by
  unfold compareBytes at h
  by_cases h1:a < b
  ·rw [if_pos h1] at h; simp at h
  ·rw [if_neg h1] at h
   by_cases h2:b < a
   ·rw [if_pos h2] at h; simp at h
   ·rw [if_neg h2] at h
    have e:a=b:=by
     rw [UInt8.lt_iff_toNat_lt] at h1 h2
     exact UInt8.toNat_inj.1 (by omega)
    rw [e,cb_zero h]

theorem cb_self:∀ a:List UInt8,compareBytes a a=0
 | [] => rfl
 | a :: xs => by
  unfold compareBytes
  have h:¬ a < a:=fun h => by rw [UInt8.lt_iff_toNat_lt] at h; omega
  rw [if_neg h,if_neg h]
  exact cb_self xs

theorem cb_trans:∀ {a b c:List UInt8},compareBytes a b≤0→compareBytes b c≤0→compareBytes a c≤0∧(compareBytes a b < 0∨compareBytes b c < 0→compareBytes a c < 0)
 | [],[],c,_,h2 => ⟨h2,fun h => by
   rcases h with h | h
   ·simp [compareBytes] at h
   ·exact h⟩
 | [],_ :: _,[],_,h2 => by simp [compareBytes] at h2
 | [],_ :: _,_ :: _,_,_ => by simp [compareBytes]
 | _ :: _,[],_,h1,_ => by simp [compareBytes] at h1
 | _ :: _,_ :: _,[],_,h2 => by simp [compareBytes] at h2
 | a :: xs,b :: ys,c :: zs,h1,h2 => by
  unfold compareBytes at h1 h2 ⊢
  simp only [UInt8.lt_iff_toNat_lt] at h1 h2 ⊢
  by_cases p1:a.toNat < b.toNat
  ·by_cases p2:b.toNat < c.toNat
   ·rw [if_pos (show a.toNat < c.toNat by omega)]; simp
   ·rw [if_neg p2] at h2
    by_cases p3:c.toNat < b.toNat
    ·rw [if_pos p3] at h2; simp at h2
    ·rw [if_pos (show a.toNat < c.toNat by omega)]; simp
  ·rw [if_neg p1] at h1 ⊢
   by_cases p2:b.toNat < a.toNat
   ·rw [if_pos p2] at h1; simp at h1
   ·rw [if_neg p2] at h1 ⊢
    by_cases p3:b.toNat < c.toNat
    ·rw [if_pos (show a.toNat < c.toNat by omega)]; simp
    ·rw [if_neg p3] at h2 ⊢
     by_cases p4:c.toNat < b.toNat
     ·rw [if_pos p4] at h2; simp at h2
     ·rw [if_neg p4] at h2 ⊢
      rw [if_neg (show ¬ a.toNat < c.toNat by omega),if_neg (show ¬ c.toNat < a.toNat by omega)]
      exact cb_trans h1 h2

theorem idCmp_swap (a b:List UInt8):idCmp b a=- idCmp a b:=by
 unfold idCmp
 by_cases h1:a.length < b.length
 ·rw [if_neg (by omega),if_pos h1,if_pos h1]; rfl
 ·by_cases h2:b.length < a.length
  ·rw [if_pos h2,if_neg h1,if_pos h2]
  ·rw [if_neg h2,if_neg h1,if_neg h1,if_neg h2]
   exact cb_swap a b

theorem idCmp_zero {a b:List UInt8} (h:idCmp a b=0):a=b:=by
 unfold idCmp at h
 by_cases h1:a.length < b.length
 ·rw [if_pos h1] at h; simp at h
 ·rw [if_neg h1] at h
  by_cases h2:b.length < a.length
  ·rw [if_pos h2] at h; simp at h
  ·rw [if_neg h2] at h
   exact cb_zero h

theorem idCmp_self (a:List UInt8):idCmp a a=0:=by
 unfold idCmp
 rw [if_neg (by omega),if_neg (by omega)]
 exact cb_self a

theorem idCmp_trans {a b c:List UInt8} (h1:idCmp a b≤0) (h2:idCmp b c≤0):idCmp a c≤0∧(idCmp a b < 0∨idCmp b c < 0→idCmp a c < 0):=by
 unfold idCmp at h1 h2 ⊢
 by_cases p1:a.length < b.length
 ·by_cases p3:c.length < b.length
  ·rw [if_neg (by omega),if_pos p3] at h2; simp at h2
  ·rw [if_pos (show a.length < c.length by omega)]; simp
 ·rw [if_neg p1] at h1 ⊢
  by_cases p2:b.length < a.length
  ·rw [if_pos p2] at h1; simp at h1
  ·rw [if_neg p2] at h1 ⊢
   by_cases p3:b.length < c.length
   ·rw [if_pos (show a.length < c.length by omega)]; simp
   ·rw [if_neg p3] at h2 ⊢
    by_cases p4:c.length < b.length
    ·rw [if_pos p4] at h2; simp at h2
    ·rw [if_neg p4] at h2 ⊢
     rw [if_neg (show ¬ a.length < c.length by omega),if_neg (show ¬ c.length < a.length by omega)]
     exact cb_trans h1 h2

theorem idLess_trans {a b c:List UInt8} (h1:idLess a b=true) (h2:idLess b c=true):idLess a c=true:=by
 unfold idLess at *
 simp only [decide_eq_true_eq] at *
 exact (idCmp_trans (by omega) (by omega)).2 (.inl h1)

theorem idLess_irrefl (a:List UInt8):idLess a a=false:=by
 unfold idLess
 rw [idCmp_self]
 rfl

theorem idLess_tri (a b:List UInt8):(idLess a b=true∧idLess b a=false∧¬ a=b)∨(idLess a b=false∧idLess b a=true∧¬ a=b)∨(idLess a b=false∧idLess b a=false∧a=b):=by
 have hs:=idCmp_swap a b
 by_cases h0:idCmp a b=0
 ·have e:=idCmp_zero h0
  subst e
  exact .inr (.inr ⟨idLess_irrefl _,idLess_irrefl _,rfl⟩)
 ·have hne:¬ a=b:=fun e => h0 (by rw [e]; exact idCmp_self b)
  unfold idLess
  by_cases h:idCmp a b < 0
  ·exact .inl ⟨by simpa using h,by simp; omega,hne⟩
  ·exact .inr (.inl ⟨by simpa using h,by simp; omega,hne⟩)

theorem idSWO:SWO (ltOf idCmp) where
 irrefl x:=idLess_irrefl x
 trans x y z h1 h2:=idLess_trans h1 h2
 ntrans x y z h1 h2:=by
  unfold ltOf at *
  have s1:=idCmp_swap x y
  have s2:=idCmp_swap y z
  have s3:=idCmp_swap x z
  simp only [decide_eq_false_iff_not] at *
  have:=(idCmp_trans (a:=z) (b:=y) (c:=x) (by omega) (by omega)).1
  omega

theorem idTot (x y:List UInt8) (h1:ltOf idCmp x y=false) (h2:ltOf idCmp y x=false):x=y:=by
 have s:=idCmp_swap x y
 unfold ltOf at h1 h2
 simp only [decide_eq_false_iff_not] at h1 h2
 exact idCmp_zero (by omega)

/-! ### Lists merged -/

def Rising (l:List (List UInt8)):Prop:=l.Pairwise fun x y => idLess x y=true

theorem rising_unique:∀ {a b:List (List UInt8)},Rising a→Rising b→(∀ x,x ∈ a ↔ x ∈ b)→a=b
 | [],[],_,_,_ => rfl
 | [],y :: b,_,_,h => by have:=(h y).2 (by simp); simp at this
 | x :: a,[],_,_,h => by have:=(h x).1 (by simp); simp at this
 | x :: a,y :: b,ha,hb,h => by
  obtain⟨ha1,ha2⟩:=List.pairwise_cons.1 ha
  obtain⟨hb1,hb2⟩:=List.pairwise_cons.1 hb
  have e:x=y:=by
   have h1:=(h x).1 (by simp)
   have h2:=(h y).2 (by simp)
   rcases List.mem_cons.1 h1 with e | h1
   ·exact e
   ·rcases List.mem_cons.1 h2 with e | h2
    ·exact e.symm
    ·have p:=hb1 x h1
     have q:=ha1 y h2
     have:=idLess_trans p q
     rw [idLess_irrefl] at this
     cases this
  subst e
  have hx:∀ {l:List (List UInt8)},(∀ z ∈ l,idLess x z=true)→x ∉ l:=fun hl hm => by
   have:=hl x hm
   rw [idLess_irrefl] at this
   cases this
  have:a=b:=rising_unique ha2 hb2 (fun z => by
   have hz:=h z
   simp only [List.mem_cons] at hz
   constructor
   ·intro hm
    rcases hz.1 (.inr hm) with e | h'
    ·subst e; exact absurd hm (hx ha1)
    ·exact h'
   ·intro hm
    rcases hz.2 (.inr hm) with e | h'
    ·subst e; exact absurd hm (hx hb1)
    ·exact h')
  rw [this]

def ins (x:List UInt8):List (List UInt8)→List (List UInt8)
 | [] => [x]
 | y :: l => if idLess y x=true then y :: ins x l else if y=x then y :: l else x :: y :: l

def mrg (a:List (List UInt8)):List (List UInt8):=a.foldl (fun out x => ins x out) []

theorem ins_mem (x z:List UInt8):∀ l,z ∈ ins x l ↔ z=x∨z ∈ l
 | [] => by simp [ins]
 | y :: l => by
  unfold ins
  by_cases h:idLess y x=true
  ·rw [if_pos h]
   simp only [List.mem_cons,ins_mem x z l]
   constructor
   ·rintro (h | h | h) <;> simp [h]
   ·rintro (h | h | h) <;> simp [h]
  ·rw [if_neg h]
   by_cases e:y=x
   ·rw [if_pos e]
    subst e
    simp only [List.mem_cons]
    constructor
    ·intro h; exact .inr h
    ·rintro (h | h)
     ·exact .inl h
     ·exact h
   ·rw [if_neg e]
    simp only [List.mem_cons]

theorem ins_rising (x:List UInt8):∀ l,Rising l→Rising (ins x l)
 | [],_ => by simp [ins,Rising]
 | y :: l,h => by
  obtain⟨h1,h2⟩:=List.pairwise_cons.1 h
  unfold ins
  by_cases hl:idLess y x=true
  ·rw [if_pos hl]
   refine List.pairwise_cons.2 ⟨fun z hz => ?_,ins_rising x l h2⟩
   rcases (ins_mem x z l).1 hz with e | hz
   ·subst e; exact hl
   ·exact h1 z hz
  ·rw [if_neg hl]
   by_cases e:y=x
   ·rw [if_pos e]; exact h
   ·rw [if_neg e]
    have hxy:idLess x y=true:=by
     rcases idLess_tri y x with ⟨p,_,_⟩ | ⟨_,p,_⟩ | ⟨_,_,p⟩
     ·exact absurd p hl
     ·exact p
     ·exact absurd p e
    refine List.pairwise_cons.2 ⟨fun z hz => ?_,h⟩
    rcases List.mem_cons.1 hz with e | hz
    ·subst e; exact hxy
    ·exact idLess_trans hxy (h1 z hz)

theorem foldl_ins (l:List (List UInt8)):∀ acc,Rising acc→Rising (l.foldl (fun out x => ins x out) acc)∧∀ z,z ∈ l.foldl (fun out x => ins x out) acc ↔ z ∈ acc∨z ∈ l:=by
 induction l with
 | nil => intro acc h; exact⟨h,fun z => by simp⟩
 | cons x l ih =>
  intro acc h
  have:=ih (ins x acc) (ins_rising x acc h)
  refine ⟨this.1,fun z => ?_⟩
  rw [List.foldl_cons,this.2 z,ins_mem]
  simp only [List.mem_cons]
  constructor
  ·rintro ((h | h) | h) <;> simp [h]
  ·rintro (h | h | h) <;> simp [h]

theorem mrg_rising (l:List (List UInt8)):Rising (mrg l):=(foldl_ins l [] (by simp [Rising])).1
theorem mrg_mem (l:List (List UInt8)) (z:List UInt8):z ∈ mrg l ↔ z ∈ l:=by
 have:=(foldl_ins l [] (by simp [Rising])).2 z
 unfold mrg
 simpa using this

theorem mrg_unique {a l:List (List UInt8)} (h:Rising a) (hm:∀ x,x ∈ a ↔ x ∈ l):a=mrg l:=rising_unique h (mrg_rising l) (fun x => (hm x).trans (mrg_mem l x).symm)

theorem compact_rising (d:Array (List UInt8)) (hs:d.toList.Pairwise fun x y => idLess y x=false):Rising (compactUpTo d d.size)∧∀ x,x ∈ compactUpTo d d.size ↔ x ∈ d.toList:=by
 have key:∀ m,m≤d.size→Rising (compactUpTo d m)∧(∀ x,x ∈ compactUpTo d m ↔ ∃ j,j < m∧d[j]! = x):=by
  intro m
  induction m with
  | zero => intro _; exact⟨by simp [compactUpTo,Rising],fun x => by simp [compactUpTo]⟩
  | succ m ih =>
   intro hm
   obtain⟨h1,h2⟩:=ih (by omega)
   have e:compactUpTo d (m+1)=compactUpTo d m ++ if keeps d m=true then [d[m]!] else []:=by
    unfold compactUpTo
    rw [List.range_succ,List.filter_append,List.map_append]
    by_cases hk:keeps d m=true <;> simp [hk]
   have hle:∀ i j,i≤j→j < d.size→idLess d[j]! d[i]! = false:=by
    intro i j hij hj
    by_cases e:i=j
    ·subst e; exact idLess_irrefl _
    ·have:=List.pairwise_iff_getElem.1 hs i j (by simpa using (by omega:i < d.size)) (by simpa using hj) (by omega)
     rw [getElem!_pos d i (by omega),getElem!_pos d j hj]
     simpa using this
   by_cases hk:keeps d m=true
   ·rw [e,if_pos hk]
    have hlt:∀ i,i < m→idLess d[i]! d[m]! = true:=by
     intro i hi
     have hm0:¬ m=0:=by omega
     have hne:d[m]! ≠ d[m - 1]!:=by
      unfold keeps at hk
      simp only [decide_eq_true_eq] at hk
      rcases hk with h | h
      ·exact absurd h hm0
      ·exact h
     have a:=hle i (m - 1) (by omega) (by omega)
     have b:=hle (m - 1) m (by omega) (by omega)
     have c:=hle i m (by omega) (by omega)
     rcases idLess_tri d[i]! d[m]! with ⟨p,_,_⟩ | ⟨_,p,_⟩ | ⟨_,_,p⟩
     ·exact p
     ·rw [c] at p; cases p
     ·exfalso
      rcases idLess_tri d[m - 1]! d[m]! with ⟨q,_,_⟩ | ⟨_,q,_⟩ | ⟨_,_,q⟩
      ·rw [← p,a] at q; cases q
      ·rw [b] at q; cases q
      ·exact hne q.symm
    refine ⟨List.pairwise_append.2 ⟨h1,by simp,fun x hx y hy => ?_⟩,fun x => ?_⟩
    ·obtain⟨j,hj,rfl⟩:=(h2 x).1 hx
     simp only [List.mem_singleton] at hy
     subst hy
     exact hlt j hj
    ·rw [List.mem_append,h2 x]
     simp only [List.mem_singleton]
     constructor
     ·rintro (⟨j,hj,h⟩ | h)
      ·exact⟨j,by omega,h⟩
      ·exact⟨m,by omega,h.symm⟩
     ·rintro ⟨j,hj,h⟩
      by_cases hjm:j=m
      ·subst hjm; exact .inr h.symm
      ·exact .inl ⟨j,by omega,h⟩
   ·rw [e,if_neg hk,List.append_nil]
    refine ⟨h1,fun x => ?_⟩
    rw [h2 x]
    have hm0:¬ m=0∧d[m]! = d[m - 1]!:=by
     unfold keeps at hk
     simp only [decide_eq_true_eq,not_or,ne_eq,Decidable.not_not] at hk
     exact hk
    constructor
    ·rintro ⟨j,hj,h⟩
     exact⟨j,by omega,h⟩
    ·rintro ⟨j,hj,h⟩
     by_cases hjm:j=m
     ·subst hjm; exact⟨j - 1,by omega,by rw [← hm0.2]; exact h⟩
     ·exact⟨j,by omega,h⟩
 obtain⟨h1,h2⟩:=key d.size (Nat.le_refl _)
 refine ⟨h1,fun x => ?_⟩
 rw [h2 x]
 constructor
 ·rintro ⟨j,hj,rfl⟩
  rw [getElem!_pos d j hj]
  simp
 ·intro hx
  obtain⟨j,hj,h⟩:=List.mem_iff_getElem.1 hx
  have hj':j < d.size:=by simpa using hj
  exact⟨j,hj',by rw [getElem!_pos d j hj']; simpa using h⟩

theorem sort_compact (l:List (List UInt8)):compactUpTo (l.mergeSort fun x y => !(ltOf idCmp) y x).toArray (l.mergeSort fun x y => !(ltOf idCmp) y x).toArray.size=mrg l:=by
 have hp:(l.mergeSort fun x y => !(ltOf idCmp) y x).Pairwise fun x y => (!(ltOf idCmp) y x)=true:=by
  apply List.pairwise_mergeSort
  ·intro a b c h1 h2
   simp only [Bool.not_eq_true'] at *
   exact idSWO.ntrans _ _ _ h2 h1
  ·intro a b
   simp only [Bool.or_eq_true,Bool.not_eq_true']
   rcases idLess_tri a b with ⟨_,p,_⟩ | ⟨p,_,_⟩ | ⟨p,_,_⟩
   ·exact .inl p
   ·exact .inr p
   ·exact .inr p
 have h:=compact_rising (l.mergeSort fun x y => !(ltOf idCmp) y x).toArray (by
  refine List.Pairwise.imp (fun {x y} h => ?_) hp
  show ltOf idCmp y x=false
  simpa using h)
 exact mrg_unique h.1 (fun x => by rw [h.2 x]; simp)
end
section

structure Val where
 sh:Int
 pr:Int
 si:Int
 st:List UInt8

def Val.zero:Val:=⟨0,0,0,[]⟩

def chOk (b:UInt8):Bool:=decide (32≤b.toNat) && decide (b.toNat≤126)

def stOk (l:List UInt8):Bool:=decide (l.length≤32) && l.all chOk

def numsOk (a b c:Int):Bool:=decide (1≤a∧a≤4∧-128≤b∧b≤127∧0≤c∧c≤1099511627776)

def vaMay (v:Val):Bool:=numsOk v.sh v.pr v.si && stOk v.st

def vaBytes (v:Val):List UInt8:=[u8of v.sh.toNat,u8of (v.pr+128).toNat] ++ (vput v.si.toNat ++ (vput v.st.length ++ v.st))

def vaTwo (l:List UInt8) (p:Int) (n:Nat) (t:List UInt8):Val:=⟨(l.getD p.toNat 0).toNat,(l.getD (p.toNat+1) 0).toNat - 128,n,t⟩

def vaTake (l:List UInt8) (p:Int):Val × Nat × Nat :=
 if p < 0∨(l.length:Int) < p then (Val.zero,0,1)
 else if (l.length:Int) - p < 2 then (Val.zero,0,2)
 else if (vget l (p+2)).2.2 ≠ 0 then (Val.zero,0,(vget l (p+2)).2.2)
 else if (vtake l (vget l (p+2)).2.1 32).2.2 ≠ 0 then (Val.zero,0,(vtake l (vget l (p+2)).2.1 32).2.2)
 else if vaMay (vaTwo l p (vget l (p+2)).1 (vtake l (vget l (p+2)).2.1 32).1)=false then (Val.zero,0,3)
 else (vaTwo l p (vget l (p+2)).1 (vtake l (vget l (p+2)).2.1 32).1,(vtake l (vget l (p+2)).2.1 32).2.1,0)

theorem vaMay_parts {v:Val} (h:vaMay v=true):1≤v.sh∧v.sh≤4∧-128≤v.pr∧v.pr≤127∧0≤v.si∧v.si≤1099511627776∧v.st.length≤32:=by
 unfold vaMay numsOk stOk at h
 simp at h
 omega

theorem vput_small_len {n:Nat} (h:n < 128):(vput n).length=1:=by rw [vput_lt h]; rfl

theorem vaBytes_len {v:Val} (hv:vaMay v=true):(vaBytes v).length=3+(vput v.si.toNat).length+v.st.length:=by
 have h:=(vaMay_parts hv).2.2.2.2.2.2
 have:=vput_small_len (show v.st.length < 128 by omega)
 unfold vaBytes
 simp only [List.length_append,List.length_cons,List.length_nil]
 omega

def shows:List (List UInt8):=[[111,102,102],[103,111,110,101],[97,119,97,121],[98,117,115,121],[111,110,108,105,110,101]]

def vaSay (n:Int):List UInt8 × Bool:=if n < 0∨4 < n then ([],false) else (shows.getD n.toNat [],true)

def vaHear (l:List UInt8):Nat × Bool :=
 if l=[111,102,102] then (0,true) else if l=[103,111,110,101] then (1,true) else if l=[97,119,97,121] then (2,true)
 else if l=[98,117,115,121] then (3,true) else if l=[111,110,108,105,110,101] then (4,true) else (0,false)

def vaEq (x y:Val):Bool:=(x.sh == y.sh && (x.pr == y.pr && (x.si == y.si && x.st == y.st)))
end
section

structure Row where
 c:List UInt8
 v:Val

def Row.zero:Row:=⟨[],Val.zero⟩

structure Chg where
 c:List UInt8
 on:Bool
 v:Val

def vSame (x y:Val):Bool:=(x.sh == y.sh && (x.pr == y.pr && (x.si == y.si && x.st == y.st)))

theorem vSame_iff {x y:Val}:vSame x y=true ↔ x=y:=by
 obtain⟨a,b,c,s⟩:=x
 obtain⟨a',b',c',s'⟩:=y
 simp [vSame]

theorem vSame_self (x:Val):vSame x x=true:=vSame_iff.2 rfl
def rSame (x y:Row):Bool:=(x.c == y.c) && vSame x.v y.v

def cSame (x y:Chg):Bool:=(x.c == y.c) && ((x.on == y.on) && vSame x.v y.v)

theorem cSame_iff {x y:Chg}:cSame x y=true ↔ x=y:=by
 obtain⟨a,o,b⟩:=x
 obtain⟨a',o',b'⟩:=y
 simp [cSame,vSame_iff]

theorem cSame_self (x:Chg):cSame x x=true:=cSame_iff.2 rfl

theorem row_get {t:List Row} {k:Nat} (h:k < t.length):t[k]=t.getD k Row.zero:=by simp [List.getD,List.getElem?_eq_getElem h]

def tSame (a b:List Row):Bool:=decide (a.length=b.length) && (List.range a.length).all fun i => rSame (a.getD i Row.zero) (b.getD i Row.zero)

theorem range_all_succ {k:Nat} {f:Nat→Bool} (h:(List.range k).all f=true) (hk:f k=true):(List.range (k+1)).all f=true:=by
 rw [List.range_succ,List.all_append,h]
 simp [hk]

theorem range_all_no {n k:Nat} {f:Nat→Bool} (hk:k < n) (h:f k=false):(List.range n).all f=false:=by
 rw [Bool.eq_false_iff]
 intro h'
 have:=List.all_eq_true.1 h' k (List.mem_range.2 hk)
 rw [h] at this
 cases this

/-! ### What may be -/

def rowOk (r:Row):Bool:=idIs r.c && vaMay r.v

def rowAt (t:List Row) (j:Nat):Bool:=rowOk (t.getD j Row.zero) && (decide (j=0) || idLess (t.getD (j - 1) Row.zero).c (t.getD j Row.zero).c)

def diMay (t:List Row):Bool:=decide (t.length≤32) && (List.range t.length).all (rowAt t)

def RRise (t:List Row):Prop:=t.Pairwise fun x y => idLess x.c y.c=true

theorem diMay_long {t:List Row} (h:32 < t.length):diMay t=false:=by
 unfold diMay
 simp
 omega

theorem diMay_iff {t:List Row}:diMay t=true ↔ t.length≤32∧(∀ r ∈ t,rowOk r=true)∧RRise t:=by
 unfold diMay
 simp only [Bool.and_eq_true,decide_eq_true_eq,List.all_eq_true,List.mem_range]
 constructor
 ·rintro ⟨h1,h2⟩
  refine ⟨h1,?_,?_⟩
  ·intro r hr
   obtain⟨k,hk,rfl⟩:=List.getElem_of_mem hr
   have:=h2 k hk
   unfold rowAt at this
   rw [← row_get hk] at this
   simp only [Bool.and_eq_true] at this
   exact this.1
  ·have key:∀ d i,i+d+1 < t.length→idLess (t.getD i Row.zero).c (t.getD (i+d+1) Row.zero).c=true:=by
    intro d
    induction d with
    | zero =>
     intro i hi
     have:=h2 (i+1) (by omega)
     unfold rowAt at this
     simp only [Bool.and_eq_true] at this
     simpa using this.2
    | succ d ih =>
     intro i hi
     have a:=ih i (by omega)
     have:=h2 (i+d+1+1) (by omega)
     unfold rowAt at this
     simp only [Bool.and_eq_true] at this
     have b:idLess (t.getD (i+d+1) Row.zero).c (t.getD (i+d+1+1) Row.zero).c=true:=by simpa using this.2
     exact idLess_trans a b
   refine List.pairwise_iff_getElem.2 fun i j hi hj hij => ?_
   rw [row_get hi,row_get hj]
   have:=key (j - i - 1) i (by omega)
   rwa [show i+(j - i - 1)+1=j by omega] at this
 ·rintro ⟨h1,h2,h3⟩
  refine ⟨h1,fun k hk => ?_⟩
  unfold rowAt
  rw [← row_get hk,h2 _ (List.getElem_mem hk)]
  simp only [Bool.true_and,Bool.or_eq_true,decide_eq_true_eq]
  by_cases h0:k=0
  ·exact .inl h0
  ·right
   have:=List.pairwise_iff_getElem.1 h3 (k - 1) k (by omega) hk (by omega)
   rwa [row_get (show k - 1 < t.length by omega)] at this

theorem rowOk_parts {r:Row} (h:rowOk r=true):idIs r.c=true∧vaMay r.v=true:=by
 unfold rowOk at h
 simpa using h

/-! ### Bytes -/

def rowBytes (r:Row):List UInt8:=(vput r.c.length ++ r.c) ++ vaBytes r.v
def rowsBytes (t:List Row):List UInt8:=(t.map rowBytes).flatten
def diBytes (t:List Row):List UInt8:=vput t.length ++ rowsBytes t
def diPut (t:List Row):List UInt8 × Bool:=if diMay t=true then (diBytes t,true) else ([],false)

theorem rowsBytes_cons (r:Row) (t:List Row):rowsBytes (r :: t)=rowBytes r ++ rowsBytes t:=rfl

theorem rowsBytes_succ {t:List Row} {k:Nat} (h:k < t.length):rowsBytes (t.take (k+1))=rowsBytes (t.take k) ++ rowBytes (t.getD k Row.zero):=by
 unfold rowsBytes
 rw [List.take_succ_eq_append_getElem h,row_get h]
 simp

theorem rowBytes_len {r:Row} (h:rowOk r=true):(rowBytes r).length≤62∧5≤(rowBytes r).length:=by
 obtain⟨h1,h2⟩:=rowOk_parts h
 have a:=(idIs_parts h1).2.1
 have a1:=(idIs_parts h1).1
 have b:=vaBytes_len h2
 have c:=(vaMay_parts h2)
 have d:=vput_small_len (show r.c.length < 128 by omega)
 have e:(vput r.v.si.toNat).length≤10:=vput_len_le _
 have e1:=vput_len_pos r.v.si.toNat
 unfold rowBytes
 simp only [List.length_append]
 omega

theorem rowsBytes_len:∀ {t:List Row},(∀ r ∈ t,rowOk r=true)→(rowsBytes t).length≤62 * t.length
 | [],_ => by simp [rowsBytes]
 | r :: t,h => by
  have a:=(rowBytes_len (h r (by simp))).1
  have b:=rowsBytes_len (t:=t) (fun x hx => h x (by simp [hx]))
  rw [rowsBytes_cons,List.length_append,List.length_cons]
  omega

theorem diBytes_len {t:List Row} (h:diMay t=true):(diBytes t).length≤1985:=by
 obtain⟨h1,h2,_⟩:=diMay_iff.1 h
 have a:=rowsBytes_len h2
 have b:=vput_small_len (show t.length < 128 by omega)
 unfold diBytes
 rw [List.length_append]
 omega

theorem diPut_len (t:List Row):(diPut t).1.length≤1985:=by
 unfold diPut
 by_cases h:diMay t=true
 ·rw [if_pos h]; exact diBytes_len h
 ·rw [if_neg h]; simp

def diTakeRow (l:List UInt8) (p:Nat):Row × Nat × Nat :=
 if (idTake l p).2.2 ≠ 0 then (Row.zero,0,(idTake l p).2.2)
 else if (vaTake l (idTake l p).2.1).2.2 ≠ 0 then (Row.zero,0,(vaTake l (idTake l p).2.1).2.2)
 else (⟨(idTake l p).1,(vaTake l (idTake l p).2.1).1⟩,(vaTake l (idTake l p).2.1).2.1,0)

def diRows:Nat→List UInt8→Nat→List Row × Nat × Nat
 | 0,_,p => ([],p,0)
 | n+1,l,p =>
  if (diTakeRow l p).2.2 ≠ 0 then ([],0,(diTakeRow l p).2.2)
  else if (diRows n l (diTakeRow l p).2.1).2.2 ≠ 0 then ([],0,(diRows n l (diTakeRow l p).2.1).2.2)
  else ((diTakeRow l p).1 :: (diRows n l (diTakeRow l p).2.1).1,(diRows n l (diTakeRow l p).2.1).2.1,0)

def diTake (l:List UInt8) (p:Int):List Row × Nat × Nat :=
 if (vget l p).2.2 ≠ 0 then ([],0,(vget l p).2.2)
 else if 32 < (vget l p).1 then ([],0,3)
 else if (diRows (vget l p).1 l (vget l p).2.1).2.2 ≠ 0 then ([],0,(diRows (vget l p).1 l (vget l p).2.1).2.2)
 else if diMay (diRows (vget l p).1 l (vget l p).2.1).1=false then ([],0,3)
 else ((diRows (vget l p).1 l (vget l p).2.1).1,(diRows (vget l p).1 l (vget l p).2.1).2.1,0)

def diComb (acc:List Row) (r:List Row × Nat × Nat):List Row × Nat × Nat:=if r.2.2 ≠ 0 then ([],0,r.2.2) else (acc ++ r.1,r.2.1,0)

/-! ### The sum -/

def fnvM:Nat:=18446744073709551616
def fnvP:Nat:=1099511628211
def fnvB:Nat:=14695981039346656037
def fnv1 (h:Nat) (b:UInt8):Nat:=((h ^^^ b.toNat) * fnvP) % fnvM
def fnv (l:List UInt8):Nat:=l.foldl fnv1 fnvB
def diSum (t:List Row):Nat:=fnv (diPut t).1

theorem foldl_snoc {α β:Type} (f:β→α→β) (i:β) (l:List α) (b:α):(l ++ [b]).foldl f i=f (l.foldl f i) b:=by simp

theorem fnv_snoc (l:List UInt8) (b:UInt8):fnv (l ++ [b])=fnv1 (fnv l) b:=foldl_snoc fnv1 fnvB l b

theorem fnvM_pos:0 < fnvM:=by unfold fnvM; omega

theorem fnv_lt (l:List UInt8):fnv l < fnvM:=by
 rcases List.eq_nil_or_concat l with rfl | ⟨a,b,rfl⟩
 ·show fnvB < fnvM
  unfold fnvB fnvM
  omega
 ·rw [List.concat_eq_append,fnv_snoc]
  unfold fnv1
  exact Nat.mod_lt _ fnvM_pos

/-! ### Get and Set -/

def diGet:List Row→List UInt8→Val × Bool
 | [],_ => (Val.zero,false)
 | r :: t,x => if r.c=x then (r.v,true) else diGet t x

def gSame (p q:Val × Bool):Bool:=vSame p.1 q.1 && (p.2 == q.2)

def diRest (t:List Row) (x:List UInt8):List Row:=t.filter fun r => !(r.c == x)

def plc (t:List Row) (x:List UInt8):Nat→Nat
 | 0 => 0
 | k+1 => if idLess (t.getD k Row.zero).c x=true then k+1 else plc t x k

def diPlace (t:List Row) (x:List UInt8):Nat:=plc t x t.length

def diIns (t:List Row) (r:Row):List Row:=t.take (diPlace t r.c) ++ ([r] ++ t.drop (diPlace t r.c))

def diSet (t:List Row) (c:Chg):List Row:=if c.on=true then diIns (diRest t c.c) ⟨c.c,c.v⟩ else diRest t c.c

def chGet (c:Chg):Val × Bool:=if c.on=true then (c.v,true) else (Val.zero,false)

theorem diGet_hit {r:Row} {x:List UInt8} (h:r.c=x) (t:List Row):diGet (r :: t) x=(r.v,true):=by unfold diGet; rw [if_pos h]
theorem diGet_miss {r : Row} {x : List UInt8} (h : ¬ r.c = x) (t : List Row) : diGet (r :: t) x = diGet t x := by conv => lhs; unfold diGet
                                                                                                                  rw [if_neg h]

theorem diGet_append:∀ (a b:List Row) (x:List UInt8),diGet (a ++ b) x=if (diGet a x).2=true then diGet a x else diGet b x
 | [],b,x => by simp [diGet]
 | r :: a,b,x => by
  rw [List.cons_append]
  by_cases h:r.c=x
  ·rw [diGet_hit h,diGet_hit h]; simp
  ·rw [diGet_miss h,diGet_miss h]
   exact diGet_append a b x

theorem diGet_zero (t:List Row) (x:List UInt8):(diGet t x).2=true∨diGet t x=(Val.zero,false):=by
 induction t with
 | nil => exact .inr rfl
 | cons r t ih =>
  unfold diGet
  by_cases h:r.c=x
  ·rw [if_pos h]; exact .inl rfl
  ·rw [if_neg h]; exact ih

/-! ### Rising tables -/

/-! ### Changes -/

def cts (t:List Row):List (List UInt8):=t.map (·.c)

def chg (a b:List Row) (x:List UInt8):Option Chg:=if gSame (diGet a x) (diGet b x)=true then none else some ⟨x,(diGet b x).2,(diGet b x).1⟩

def diChanges (a b:List Row):List Chg:=(mrg (cts a ++ cts b)).filterMap (chg a b)

def setAll (t:List Row) (l:List Chg):List Row:=l.foldl diSet t
end
section

structure Que where
 l:List Chg
 la:Bool

def Chg.nought:Chg:=⟨[],false,Val.zero⟩

def quOne (c:Chg):Bool:=idIs c.c && (if c.on=true then vaMay c.v else vSame c.v Val.zero)
def quAt (l:List Chg) (x:List UInt8):Nat:=l.findIdx fun c => c.c == x
def quHas (l:List Chg) (x:List UInt8):Bool:=decide (quAt l x < l.length)
def quNo2 (l:List Chg):Prop:=(l.map (·.c)).Nodup
instance (l:List Chg):Decidable (quNo2 l):=by unfold quNo2; infer_instance
def quMay (q:Que) (room:Int):Bool:=decide ((q.l.length:Int)≤room) && !(q.la && decide (0 < q.l.length)) && q.l.all quOne && decide (quNo2 q.l)
def quEmpty (q:Que):Bool:=decide (q.l.length=0) && !q.la
def quFind (q:Que) (x:List UInt8):Chg × Bool:=if quHas q.l x=true then (q.l.getD (quAt q.l x) Chg.nought,true) else (Chg.nought,false)
def quPush (q:Que) (c:Chg) (room:Int):Que :=
 if q.la=true then q else if quHas q.l c.c=true then ⟨q.l.set (quAt q.l c.c) c,false⟩ else if (q.l.length:Int) < room then ⟨q.l ++ [c],false⟩ else ⟨[],true⟩
def quPop (q:Que):Chg × Que × Bool:=match q.l with
 | [] => (Chg.nought,q,false)
 | c :: l => (c,⟨l,q.la⟩,true)

theorem quAt_le (l:List Chg) (x:List UInt8):quAt l x≤l.length:=List.findIdx_le_length

theorem quHas_iff {l:List Chg} {x:List UInt8}:quHas l x=true ↔ ∃ c ∈ l,c.c=x:=by
 unfold quHas quAt
 rw [decide_eq_true_eq,List.findIdx_lt_length]
 simp [beq_iff_eq]

theorem quHas_no {l:List Chg} {x:List UInt8} (h:quHas l x=false):∀ c ∈ l,¬ c.c=x:=fun c hc e => by
 rw [quHas_iff.2 ⟨c,hc,e⟩] at h
 cases h

theorem quAt_is {l:List Chg} {x:List UInt8} (h:quHas l x=true):quAt l x < l.length∧(l.getD (quAt l x) Chg.nought).c=x:=by
 unfold quHas at h
 rw [decide_eq_true_eq] at h
 refine ⟨h,?_⟩
 rw [List.getD_eq_getElem?_getD,List.getElem?_eq_getElem h]
 have:=List.findIdx_getElem (p:=fun c:Chg => c.c == x) (w:=h)
 rw [beq_iff_eq] at this
 exact this

theorem quAt_not {l:List Chg} {x:List UInt8} {k:Nat} (h:k < quAt l x):¬ (l.getD k Chg.nought).c=x:=by
 have hk:k < l.length:=Nat.lt_of_lt_of_le h (quAt_le l x)
 rw [List.getD_eq_getElem?_getD,List.getElem?_eq_getElem hk]
 have:=List.not_of_lt_findIdx (p:=fun c:Chg => c.c == x) h
 simpa [beq_iff_eq] using this

theorem quAt_of {l:List Chg} {x:List UInt8} {k:Nat} (hk:k < l.length) (h:(l.getD k Chg.nought).c=x) (hn:∀ i,i < k→¬ (l.getD i Chg.nought).c=x):quAt l x=k:=by
 rcases Nat.lt_trichotomy (quAt l x) k with h1 | h1 | h1
 ·have hh:quHas l x=true:=by unfold quHas; rw [decide_eq_true_eq]; omega
  exact absurd (quAt_is hh).2 (hn _ h1)
 ·exact h1
 ·exact absurd h (quAt_not h1)

theorem quFind_zero (q:Que) (x:List UInt8):(quFind q x).2=quHas q.l x:=by
 unfold quFind
 cases h:quHas q.l x <;> simp

theorem quAt_own {l:List Chg} (h:quNo2 l) {k:Nat} (hk:k < l.length):quAt l (l.getD k Chg.nought).c=k:=by
 refine quAt_of hk rfl fun i hi e => ?_
 unfold quNo2 List.Nodup at h
 rw [List.pairwise_map,List.pairwise_iff_getElem] at h
 have hi':i < l.length:=by omega
 refine h i k hi' hk hi ?_
 rw [List.getD_eq_getElem?_getD,List.getElem?_eq_getElem hi',List.getD_eq_getElem?_getD,List.getElem?_eq_getElem hk] at e
 exact e

/-! ### each text once -/
theorem nodup_sub:∀ (a b:List (List UInt8)),a.Nodup→(∀ x ∈ a,x ∈ b)→a.length≤b.length
 | [],_,_,_ => Nat.zero_le _
 | x :: a,b,h,hs => by
  have h':=List.nodup_cons.1 h
  have hx:x ∈ b:=hs x (by simp)
  have:=nodup_sub a (b.erase x) h'.2 fun y hy => (List.mem_erase_of_ne (fun e => h'.1 (by rw [← e]; exact hy))).2 (hs y (by simp [hy]))
  rw [List.length_erase_of_mem hx] at this
  have hpos:0 < b.length:=List.length_pos_iff.2 (fun e => by rw [e] at hx; cases hx)
  simp only [List.length_cons]
  omega

theorem nodup_less:∀ (l a:List (List UInt8)),a.Nodup→(∀ x ∈ a,x ∈ l)→¬ l.Nodup→a.length < l.length
 | [],_,_,_,hn => absurd List.nodup_nil hn
 | x :: l,a,ha,hs,hn => by
  by_cases hx:x ∈ l
  ·have:=nodup_sub a l ha fun y hy => by
    rcases List.mem_cons.1 (hs y hy) with e | h
    ·rw [e]; exact hx
    ·exact h
   simp only [List.length_cons]
   omega
  ·have hl:¬ l.Nodup:=fun h => hn (List.nodup_cons.2 ⟨hx,h⟩)
   have:=nodup_less l (a.erase x) (ha.sublist List.erase_sublist) (fun y hy => by
    have hy':=(List.Nodup.mem_erase_iff ha).1 hy
    exact (List.mem_cons.1 (hs y hy'.2)).resolve_left hy'.1) hl
   have h1:a.length≤(a.erase x).length+1:=by
    by_cases hm:x ∈ a
    ·rw [List.length_erase_of_mem hm]; omega
    ·rw [List.erase_of_not_mem hm]; omega
   simp only [List.length_cons]
   omega

theorem rising_nodup {l:List (List UInt8)} (h:Rising l):l.Nodup:=by
 unfold Rising at h
 refine h.imp fun {a b} hab e => ?_
 rw [e,idLess_irrefl] at hab
 cases hab

theorem mrg_full (l:List (List UInt8)):(mrg l).length=l.length ↔ l.Nodup:=by
 have hr:=rising_nodup (mrg_rising l)
 constructor
 ·intro h
  refine Classical.byContradiction fun hn => ?_
  have:=nodup_less l (mrg l) hr (fun x hx => (mrg_mem l x).1 hx) hn
  omega
 ·intro h
  have h1:=nodup_sub (mrg l) l hr fun x hx => (mrg_mem l x).1 hx
  have h2:=nodup_sub l (mrg l) h fun x hx => (mrg_mem l x).2 hx
  omega

/-! ### what is pushed -/
theorem quMay_iff {q:Que} {room:Int}:quMay q room=true ↔ (q.l.length:Int)≤room∧(q.la=true→q.l=[])∧(∀ c ∈ q.l,quOne c=true)∧quNo2 q.l:=by
 unfold quMay
 simp only [Bool.and_eq_true,decide_eq_true_eq,Bool.not_eq_true',Bool.and_eq_false_iff,decide_eq_false_iff_not,List.all_eq_true]
 constructor
 ·rintro ⟨⟨⟨h1,h2⟩,h3⟩,h4⟩
  refine ⟨h1,fun hl => ?_,h3,h4⟩
  rcases h2 with h2 | h2
  ·rw [hl] at h2; cases h2
  ·exact List.length_eq_zero_iff.1 (by omega)
 ·rintro ⟨h1,h2,h3,h4⟩
  refine ⟨⟨⟨h1,?_⟩,h3⟩,h4⟩
  cases hl:q.la
  ·exact .inl rfl
  ·right; rw [h2 hl]; simp

theorem set_contacts {l:List Chg} {c:Chg} (h:quHas l c.c=true):(l.set (quAt l c.c) c).map (·.c)=l.map (·.c):=by
 obtain⟨hlt,he⟩:=quAt_is h
 rw [List.map_set]
 refine List.ext_getElem (by simp) fun i h1 h2 => ?_
 rw [List.getElem_set]
 split
 ·rename_i e
  subst e
  rw [List.getElem_map]
  rw [List.getD_eq_getElem?_getD,List.getElem?_eq_getElem hlt] at he
  exact he.symm
 ·rfl

theorem quPush_no2 {q:Que} {c:Chg} {room:Int} (h:quNo2 q.l):quNo2 (quPush q c room).l:=by
 unfold quPush
 split
 ·exact h
 ·split
  ·rename_i hh
   show (List.map _ _).Nodup
   rw [set_contacts hh]
   exact h
  ·rename_i hh
   split
   ·show (List.map _ _).Nodup
    rw [List.map_append,List.nodup_append]
    refine ⟨h,by simp,fun a ha b hb e => ?_⟩
    simp only [List.map_cons,List.map_nil,List.mem_singleton] at hb
    obtain⟨x,hx,rfl⟩:=List.mem_map.1 ha
    exact quHas_no (by simpa using hh) x hx (by rw [← hb]; exact e)
   ·exact List.nodup_nil

theorem quPush_mem {q:Que} {c x:Chg} {room:Int} (h:x ∈ (quPush q c room).l):x=c∨x ∈ q.l:=by
 unfold quPush at h
 split at h
 ·exact .inr h
 ·split at h
  ·exact (List.mem_or_eq_of_mem_set h).symm
  ·split at h
   ·rcases List.mem_append.1 h with h | h
    ·exact .inr h
    ·exact .inl (by simpa using h)
   ·cases h

theorem quPush_len {q:Que} {c:Chg} {room:Int} (h:(q.l.length:Int)≤room):((quPush q c room).l.length:Int)≤room:=by
 unfold quPush
 split
 ·exact h
 ·split
  ·simpa using h
  ·split
   ·rename_i h1
    simp only [List.length_append,List.length_cons,List.length_nil]
    omega
   ·simp only [List.length_nil]
    omega

theorem quPush_may {q:Que} {c:Chg} {room:Int} (h:quMay q room=true) (hc:quOne c=true):quMay (quPush q c room) room=true:=by
 obtain⟨h1,h2,h3,h4⟩:=quMay_iff.1 h
 refine quMay_iff.2 ⟨quPush_len h1,fun hl => ?_,fun x hx => ?_,quPush_no2 h4⟩
 ·unfold quPush at hl ⊢
  split at hl
  ·rename_i hq
   rw [if_pos hq]
   exact h2 hq
  ·rename_i hq
   rw [if_neg hq]
   split at hl
   ·cases hl
   ·rename_i hh
    rw [if_neg hh]
    split at hl
    ·cases hl
    ·rename_i hr
     rw [if_neg hr]
 ·rcases quPush_mem hx with e | h'
  ·rw [e]; exact hc
  ·exact h3 x h'

theorem quPush_ways (q:Que) (c:Chg) (room:Int):(q.la=true∧quPush q c room=q) ∨
  (q.la=false∧quHas q.l c.c=true∧quPush q c room=⟨q.l.set (quAt q.l c.c) c,false⟩) ∨
  (q.la=false∧quHas q.l c.c=false∧(q.l.length:Int) < room∧quPush q c room=⟨q.l ++ [c],false⟩) ∨
  (q.la=false∧quHas q.l c.c=false∧room≤(q.l.length:Int)∧quPush q c room=⟨[],true⟩):=by
 unfold quPush
 cases hl:q.la
 ·right
  rw [if_neg (by simp)]
  cases hh:quHas q.l c.c
  ·right
   rw [if_neg (by simp)]
   by_cases hr:(q.l.length:Int) < room
   ·left; exact⟨rfl,rfl,hr,if_pos hr⟩
   ·right; exact⟨rfl,rfl,by omega,if_neg hr⟩
  ·left; exact⟨rfl,rfl,if_pos rfl⟩
 ·left; exact⟨rfl,if_pos rfl⟩

theorem quPush_there {q:Que} {c:Chg} {room:Int} (h:(quPush q c room).la=false):q.la=false∧quHas (quPush q c room).l c.c=true∧quFind (quPush q c room) c.c=(c,true)∧q.l.length≤(quPush q c room).l.length∧(quPush q c room).l.length≤q.l.length+1 ∧
  ∀ i,i < q.l.length→((quPush q c room).l.getD i Chg.nought).c=(q.l.getD i Chg.nought).c∧((q.l.getD i Chg.nought).c ≠ c.c→(quPush q c room).l.getD i Chg.nought=q.l.getD i Chg.nought):=by
 rcases quPush_ways q c room with ⟨hl,e⟩ | ⟨hl,hh,e⟩ | ⟨hl,hh,hr,e⟩ | ⟨hl,hh,hr,e⟩
 ·rw [e,hl] at h; cases h
 ·rw [e]
  obtain⟨hlt,he⟩:=quAt_is hh
  have hm:(q.l.set (quAt q.l c.c) c).getD (quAt q.l c.c) Chg.nought=c:=by
   rw [List.getD_eq_getElem?_getD,List.getElem?_set_self hlt]; rfl
  have hat:quAt (q.l.set (quAt q.l c.c) c) c.c=quAt q.l c.c:=by
   refine quAt_of (by simpa using hlt) (by rw [hm]) fun i hi => ?_
   rw [List.getD_eq_getElem?_getD,List.getElem?_set_ne (by omega),← List.getD_eq_getElem?_getD]
   exact quAt_not hi
  have hhas:quHas (q.l.set (quAt q.l c.c) c) c.c=true:=by
   unfold quHas; rw [decide_eq_true_eq,hat]; simpa using hlt
  refine ⟨hl,hhas,?_,by simp,by simp,fun i hi => ?_⟩
  ·unfold quFind
   simp only
   rw [if_pos hhas,hat,hm]
  ·by_cases hi':i=quAt q.l c.c
   ·subst hi'
    simp only
    rw [hm,he]
    exact⟨rfl,fun h => absurd rfl h⟩
   ·simp only
    rw [List.getD_eq_getElem?_getD,List.getElem?_set_ne (fun h => hi' h.symm),← List.getD_eq_getElem?_getD]
    exact⟨rfl,fun _ => rfl⟩
 ·rw [e]
  have hm:(q.l ++ [c]).getD q.l.length Chg.nought=c:=by
   rw [List.getD_eq_getElem?_getD,List.getElem?_append_right (Nat.le_refl _)]; simp
  have hat:quAt (q.l ++ [c]) c.c=q.l.length:=by
   refine quAt_of (by simp) (by rw [hm]) fun i hi => ?_
   rw [List.getD_eq_getElem?_getD,List.getElem?_append_left hi,List.getElem?_eq_getElem hi]
   exact quHas_no hh _ (List.getElem_mem hi)
  have hhas:quHas (q.l ++ [c]) c.c=true:=by
   unfold quHas; rw [decide_eq_true_eq,hat]; simp
  refine ⟨hl,hhas,?_,by simp,by simp,fun i hi => ?_⟩
  ·unfold quFind
   simp only
   rw [if_pos hhas,hat,hm]
  ·simp only
   rw [List.getD_eq_getElem?_getD,List.getElem?_append_left hi,← List.getD_eq_getElem?_getD]
   exact⟨rfl,fun _ => rfl⟩
 ·rw [e] at h; cases h

theorem quNo2_tail {c:Chg} {l:List Chg} (h:quNo2 (c :: l)):quNo2 l:=by
 unfold quNo2 at h ⊢
 rw [List.map_cons] at h
 exact (List.nodup_cons.1 h).2

theorem quPush_count {q:Que} {c:Chg} {room:Int} (h:(quPush q c room).la=false):(quPush q c room).l.length=q.l.length+(if quHas q.l c.c=true then 0 else 1):=by
 rcases quPush_ways q c room with ⟨hl',e⟩ | ⟨_,hh,e⟩ | ⟨_,hh,_,e⟩ | ⟨_,_,hr,e⟩
 ·rw [e,hl'] at h; cases h
 ·rw [e,if_pos hh]; simp
 ·rw [e,if_neg (by rw [hh]; simp)]; simp
 ·rw [e] at h; cases h

theorem quPush_has {q:Que} {c:Chg} {room:Int} (h:(quPush q c room).la=false) (x:List UInt8) (hx:¬ x=c.c):quHas (quPush q c room).l x=quHas q.l x:=by
 rw [Bool.eq_iff_iff,quHas_iff,quHas_iff]
 constructor
 ·rintro ⟨y,hy,e⟩
  rcases quPush_mem hy with e' | hy'
  ·exact absurd (by rw [← e,e']) hx
  ·exact⟨y,hy',e⟩
 ·rintro ⟨y,hy,e⟩
  rcases quPush_ways q c room with ⟨_,ee⟩ | ⟨_,hh,ee⟩ | ⟨_,hh,_,ee⟩ | ⟨_,_,hr,ee⟩
  ·rw [ee]; exact⟨y,hy,e⟩
  ·rw [ee]
   have:=List.mem_map_of_mem (f:=(·.c)) hy
   rw [← set_contacts hh] at this
   obtain⟨z,hz,ez⟩:=List.mem_map.1 this
   exact⟨z,hz,by rw [ez]; exact e⟩
  ·rw [ee]; exact⟨y,List.mem_append_left _ hy,e⟩
  ·rw [ee] at h; cases h
end
section
open Go.RowKit

def bvals (l:List UInt8):List Value:=l.map fun b => .int .u8 b.toNat

theorem ret_int {k:IntKind} {a b:Int} (h:a=b):Ending.returned (.int k a)=.returned (.int k b):=by rw [h]

theorem bvals_append (a b:List UInt8):bvals (a ++ b)=bvals a ++ bvals b:=by simp [bvals]
theorem strOfNums_bytes (xs:List UInt8):strOfNums (xs.map fun b => (b.toNat:Int))=⟨xs.toArray⟩:=by
 have h:xs.map ((fun n:Int => UInt8.ofNat n.toNat) ∘ fun b:UInt8 => (b.toNat:Int))=xs.map id:=List.map_congr_left fun b _ => by simp
 simp only [strOfNums,List.map_map]
 rw [h,List.map_id]

theorem run_convert_owned {P:Program} {w:World} (src e dst:TypeId) (hs:P.underlying src=some (.slice e)) (he:P.underlying e=some (.int .u8)) (hd:P.underlying dst=some .string)
  {base n:Nat} {v:Value} {xs:List UInt8} (h:w.ownsRow base e 1 v n (bvals xs)) :
  (convert src dst v).run P w=.ok (.string ⟨xs.toArray⟩) w:=by
 rcases h with ⟨hl,⟨rfl,rfl⟩ | ⟨g,cap,cur,rfl,hb,hg,hn,hc,hsz,htk⟩⟩
 ·have hx:xs=[]:=by simpa [bvals] using hl
  subst hx
  rw [run_convert_bytes_nil w src e hs he 0 0 dst hd]
  rfl
 ·have hlen:xs.length=n:=by simpa [bvals] using hl
  rw [← strOfNums_bytes]
  refine run_convert_bytes_arg w src e hs he g 0 n cap (xs.map fun b => (b.toNat:Int)) (by simpa using hlen) (fun i hi => ?_) dst hd
  rw [Nat.zero_add,cell_of_row w g i cur e (0,0) hg]
  have h1:cur.toList[i]?=(bvals xs)[i]?:=by
   rw [← htk,List.getElem?_take,if_pos (by omega)]
  have h2:(bvals xs)[i]?=some (.int .u8 ((xs.map fun b => (b.toNat:Int)).getD i 0)):=by
   have:i < xs.length:=by omega
   simp [bvals,List.getD,List.getElem?_eq_getElem this]
  rw [← h2,← h1]
  simp

theorem cells_one (w:World) (u:Value) (e:TypeId):∀ j x,[u][j]?=some x→(w.alloc (.cells #[u] e)).cell? ((⟨w.heap.size,0,none⟩ : Addr).add j)=some x:=by
 intro j x hj
 match j,hj with
 | 0,hj =>
  simp at hj
  subst hj
  simp [Addr.add]

theorem wpList_append_one {P:Program} {w:World} {ops:Array Oper} {rest:List Oper} {o:Oper} {a:Act} {Q:Exit→Act→World→Prop} (u:Value)
  (hgd:o.guard=none) (s x:Operand) (t:TypeId) (ho:o.op=.call { callee:=.builtin .append,args:=#[s,x],argTypes:=#[t,t] })
  (base:Nat) (e:TypeId) (i:TypeInfo) (z:Value) (bytes:Nat) (ht:P.underlying t=some (.slice e)) (hi:P.info? e=some i) (hz:i.zero=some z)
  (hsize:i.size=1) (hby:i.bytes=bytes) (hzs:z.cells.size=1)
  (v:Value) (n:Nat) (xs:List Value) (hs:a.eval s=v) (hown:w.ownsRow base e 1 v n xs)
  (hx:a.eval x=.slice (some ⟨w.heap.size,0,none⟩) 1 1) (h1:u.oneCell'=true)
  (hbytes:n < 4294967296) (hb:bytes≤4096) (hbase:base≤w.heap.size)
  (h:∀ v' w',w'.ownsRow base e 1 v' (n+1) (xs ++ [u])→Below base w w'→wpList P ops Q rest (a.put o.dst v') w') :
  wpList P ops Q (o :: rest) a (w.alloc (.cells #[u] e)):=by
 refine wpList_append_own _ hgd s x t ho base e i z 1 bytes ht hi hz hsize hby hzs (by decide) v n xs hs (hown.alloc _) ⟨w.heap.size,0,none⟩ 1 1 [u] hx rfl (cells_one w u e) (by simpa using h1)
  (by unfold maxLen; omega) (Nat.le_trans (Nat.mul_le_mul (show n+1≤4294967296 by omega) hb) (by decide)) (by simp; omega) ?_
 intro v' w' hown' hgrow _
 refine h v' w' hown' (((Below.refl base w).alloc hbase _).grown hgrow (by simp; omega) (fun k hk => (hown.lt k hk).1))

theorem wpList_append_u8 {P:Program} {w:World} {ops:Array Oper} {rest:List Oper} {o:Oper} {a:Act} {Q:Exit→Act→World→Prop} (Y:Int) (y:Nat) (hY:Y=(y:Int)) (hy:y < 256)
  (hgd:o.guard=none) (s x:Operand) (t:TypeId) (ho:o.op=.call { callee:=.builtin .append,args:=#[s,x],argTypes:=#[t,t] })
  (base:Nat) (e:TypeId) (i:TypeInfo) (ht:P.underlying t=some (.slice e)) (hi:P.info? e=some i) (hz:i.zero=some (.int .u8 0))
  (hsize:i.size=1) (hby:i.bytes=1)
  (v:Value) (xs:List UInt8) (hs:a.eval s=v) (hown:w.ownsRow base e 1 v xs.length (bvals xs))
  (hx:a.eval x=.slice (some ⟨w.heap.size,0,none⟩) 1 1) (hlen:xs.length < 4294967296) (hbase:base≤w.heap.size)
  (h:∀ v' w',w'.ownsRow base e 1 v' (xs ++ [u8of y]).length (bvals (xs ++ [u8of y]))→Below base w w'→wpList P ops Q rest (a.put o.dst v') w') :
  wpList P ops Q (o :: rest) a (w.alloc (.cells #[.int .u8 Y] e)):=by
 subst hY
 have e1:bvals (xs ++ [u8of y])=bvals xs ++ [.int .u8 (y:Int)]:=by
  rw [bvals_append]
  have:(u8of y).toNat=y:=u8of_toNat hy
  simp [bvals,this]
 refine wpList_append_one (.int .u8 (y:Int)) hgd s x t ho base e i (.int .u8 0) 1 ht hi hz hsize hby rfl v xs.length (bvals xs) hs hown hx rfl hlen (by decide) hbase ?_
 intro v' w' hown' hb
 refine h v' w' ?_ hb
 rw [e1]
 simpa using hown'

theorem or128 (x:Nat):bits .or .u8 ((x:Int) % 256) 128=((x % 128+128:Nat):Int):=by
 have h1:(x:Int) % 256=((x % 256:Nat):Int):=by omega
 rw [h1,show (128:Int)=((128:Nat):Int) from rfl,u8_or_nat _ _ (by omega) (by omega)]
 congr 1
 rw [Nat.or_comm]
 have e:x % 256=128 * (x / 128 % 2)+x % 128:=by omega
 have h2:x / 128 % 2=0∨x / 128 % 2=1:=by omega
 have h3:x % 128 < 2 ^ 7:=by omega
 have h4:128+x % 128=128 ||| x % 128:=Nat.two_pow_add_eq_or_of_lt (i:=7) h3 1
 rcases h2 with h | h
 ·rw [e,h,Nat.mul_zero,Nat.zero_add,← h4]
  omega
 ·rw [e,h,Nat.mul_one,h4,← Nat.or_assoc,Nat.or_self,← h4]
  omega

theorem bytes_at (l:List UInt8) (p:Nat) (h:p < (⟨l.toArray⟩ : ByteArray).size):l[p]?=some ((⟨l.toArray⟩ : ByteArray)[p]'h):=by
 have h':p < l.length:=by
  have:(⟨l.toArray⟩ : ByteArray).size=l.length:=by show l.toArray.size=_; simp
  omega
 rw [List.getElem?_eq_getElem h']
 rfl

theorem size_bytes (l:List UInt8):(⟨l.toArray⟩ : ByteArray).size=l.length:=by show l.toArray.size=_; simp

theorem below3 {w a b c:World} (h1:Below w.heap.size w a) (h2:Below a.heap.size a b) (h3:Below b.heap.size b c):Below w.heap.size w c :=
 h1.trans ((h2.mono h1.size).trans (h3.mono (Nat.le_trans h1.size h2.size)))

theorem below2' {w a b:World} (h1:Below w.heap.size w a) (h2:Below a.heap.size a b):Below w.heap.size w b:=h1.trans (h2.mono h1.size)

theorem rgB {P:Program} {f:FuncId} {args:Array Value} {v:Value} (h:∀ w,Calls P f args w fun e w' => e=.returned v∧Below w.heap.size w w') (w:World) (d:Nat) (os:Array Obj) :
  Calls P f args (Sort.grow (redrawn w d) os) fun e w'' => e=.returned v∧∃ p:Regrown,w''=Sort.grow (redrawn w p.d) p.os:=Calls.regrown_of (h _)

def IsRow (k:IntKind) (w:World) (a:Option Addr) (len cap:Nat) (zs:List Int):Prop :=
 (a=none∧len=0∧cap=0∧zs=[]) ∨
 ∃ x,a=some x∧len≤cap∧cap≤maxLen∧zs.length=cap∧(∀ i,i < zs.length→w.cell? (x.add i)=some (.int k (zs.getD i 0)))∧∀ n ∈ zs,(Lit.int k n).wf=true

def IsStrs (w:World) (a:Option Addr) (len cap:Nat) (ss:List ByteArray):Prop :=
 (a=none∧len=0∧cap=0∧ss=[]) ∨
 ∃ x,a=some x∧len≤cap∧cap≤maxLen∧ss.length=cap∧(∀ i,i < ss.length→w.cell? (x.add i)=some (.string (ss.getD i ByteArray.empty)))∧∀ s ∈ ss,s.size≤maxLen

theorem run_convert_new {P:Program} (w:World) (src e dst:TypeId) (hs:P.underlying src=some (.slice e)) (he:P.underlying e=some (.int .u8)) (hd:P.underlying dst=some .string)
  (cs:Array Value) (xs:List UInt8) (h:cs=(bvals xs).toArray) (n:Nat) (hn:n=xs.length) (hm:n≤maxLen) :
  (convert src dst (.slice (some ⟨w.heap.size,0,none⟩) n n)).run P (w.alloc (.cells cs e))=.ok (.string ⟨xs.toArray⟩) (w.alloc (.cells cs e)):=by
 subst h
 subst hn
 refine run_convert_owned src e dst hs he hd (base:=0) (n:=xs.length) (xs:=xs) ⟨by simp [bvals],.inr ⟨w.heap.size,xs.length,(bvals xs).toArray,rfl,Nat.zero_le _,heap_alloc_new w _,Nat.le_refl _,hm,by simp [bvals],?_⟩⟩
 simp only [Nat.mul_one]
 exact List.take_of_length_le (by simp [bvals])
end
section
open Go.RowKit

theorem Try.info5:(Try.prog.info? 5).map (fun i => (i.zero,i.size,i.bytes))=some (some (.int .u8 0),1,1):=by kernel_rfl

theorem put_any (n:Nat) (hn:n < 18446744073709551616) (w:World) :
  Calls Try.prog 62 #[.int .u64 n] w fun e w' => e=.returned (.string ⟨(vput n).toArray⟩)∧Below w.heap.size w w':=by
 obtain⟨i0,hi,hz0,hz1,hz2⟩:=info_parts Try.info5
 go_enter Try.func62,Try.ntmps62
 go_wp2
 go_loopw [0,3] (fun i v wr => ∃ (m:Nat) (xs:List UInt8),m < 18446744073709551616∧xs ++ vput m=vput n∧i=.int .u64 m∧wr.ownsRow w.heap.size 5 1 v xs.length (bvals xs)∧Below w.heap.size w wr)
  (fun i _ _ => (intOf i).toNat)
 case atStart => exact⟨n,[],hn,rfl,rfl,World.ownsRow_nil _ _ _ _,Below.refl _ _⟩
 case round =>
  obtain⟨m,xs,hm,hx,rfl,hown,hnx⟩:=hrel
  have hlen:xs.length≤10:=by
   have h1:=congrArg List.length hx
   have h2:=vput_len_le n
   simp at h1; omega
  have hsz:=hnx.size
  by_cases hlt:m < 128
  ·have hv:=vput_lt hlt
   go_wp2_with (at_builtin; go_must (refine wpList_append_u8 _ m rfl (by omega) rfl _ _ 105 rfl w.heap.size 5 i0 Try.underlying105 hi hz0 hz1 hz2 _ xs rfl (by exact hown) rfl (by omega) hsz ?_))
   intro v' w1 hown' hb
   have hc:=run_convert_owned (P:=Try.prog) 105 5 9 Try.underlying105 Try.underlying5 Try.underlying9 hown'
   go_wp2
   go_ret
   exact⟨by rw [← hx,hv]; rfl,hnx.trans hb⟩
  ·have hv:=vput_ge (by omega) hm
   go_wp2_with (at_builtin; go_must (refine wpList_append_u8 _ (m % 128+128) (or128 m) (by omega) rfl _ _ 105 rfl w.heap.size 5 i0 Try.underlying105 hi hz0 hz1 hz2 _ xs rfl (by exact hown) rfl (by omega) hsz ?_))
   intro v' w1 hown' hb
   go_wp2
   go_roundw
   case rel => exact⟨m / 128,xs ++ [u8of (m % 128+128)],by omega,by rw [← hx,hv]; simp,by go_num,by simpa using hown',hnx.trans hb⟩
   case measure => simp [intOf]; omega

theorem text_any (l:List UInt8) (hl:l.length≤4294967296) (w:World) :
  Calls Try.prog 71 #[.string ⟨l.toArray⟩] w fun e w' => e=.returned (.string ⟨(vput l.length ++ l).toArray⟩)∧Below w.heap.size w w':=by
 go_enter Try.func71,Try.ntmps71
 have hlen:=vput_len_le l.length
 go_wp2_with (go_at_call 62; go_must (refine (put_any l.length (by omega) _).mono ?_); rintro e w' ⟨rfl,hb⟩)
 go_ret
 exact⟨rfl,hb⟩
end
section
open Go.RowKit

def triple (r:Nat × Nat × Nat):Value:=.tuple #[.int .u64 r.1,.int .i64 r.2.1,.int .i64 r.2.2]

def GetJ (l : List UInt8) (q : Nat) (w : World) (a' : Act) (w' : World) : Prop := w' = w ∧ ∃ (i acc p sh : Nat) (u10 u11 u12 u13 u14 u15 u16 u17 u18 u19 u20 u21 u22 u23 u24 u25 u26 u27 u28 u29 u30 u31 u32 u33 u34 u35 u36 u37 u38 u39 u40 u41 u42 u43 u44 u45 u46 u47 u48 u49 u50 u51 u52 u53 u54 u55 u56 : Value), i ≤ 9 ∧ 1 ≤ i ∧ p ≤ l.length ∧ Hid (GetAt l q i acc p sh) ∧
      a' = { tmps := #[.string ⟨l.toArray⟩, .int .i64 q, undef, undef, .int .u64 0, .int .i64 0, .int .i64 0, .int .u64 acc, .int .u64 sh, .int .i64 p, u10, u11, u12, u13, u14, u15, u16, u17, u18, u19, u20, u21, u22, u23, u24, u25, u26, u27, u28, u29, u30, u31, u32, u33, u34, u35, u36, u37, u38, u39, u40, u41, u42, u43, u44, u45, u46, u47, u48, u49, u50, u51, u52, u53, u54, u55, u56], defers := [] }

def GetM (l:List UInt8) (a':Act) (_:World):Nat:=l.length - (intOf (a'.tmps.getD 9 undef)).toNat
end
section
open Go.RowKit
end
section
open Go.RowKit

def tripleS (r:List UInt8 × Nat × Nat):Value:=.tuple #[.string ⟨r.1.toArray⟩,.int .i64 r.2.1,.int .i64 r.2.2]
end
section
open Go.RowKit

def rowVals (r:Row):List Value:=[.string ⟨r.c.toArray⟩,.int .i64 r.v.sh,.int .i64 r.v.pr,.int .i64 r.v.si,.string ⟨r.v.st.toArray⟩]

def Cells5 (w:World) (b o:Nat) (r:Row):Prop :=
 w.cell? ⟨b,o,none⟩=some (.string ⟨r.c.toArray⟩)∧w.cell? ⟨b,o+1,none⟩=some (.int .i64 r.v.sh)∧w.cell? ⟨b,o+2,none⟩=some (.int .i64 r.v.pr) ∧
  w.cell? ⟨b,o+3,none⟩=some (.int .i64 r.v.si)∧w.cell? ⟨b,o+4,none⟩=some (.string ⟨r.v.st.toArray⟩)

theorem Cells5.later {w w':World} {b o:Nat} {r:Row} (h:Cells5 w b o r) (hb:Below w.heap.size w w') (hlt:b < w.heap.size):Cells5 w' b o r:=by
 obtain⟨h0,h1,h2,h3,h4⟩:=h
 have k:∀ o,w'.cell? ⟨b,o,none⟩=w.cell? ⟨b,o,none⟩:=fun o => hb.cell (p:=⟨b,o,none⟩) hlt
 exact⟨(k _).trans h0,(k _).trans h1,(k _).trans h2,(k _).trans h3,(k _).trans h4⟩

def Tab (w:World) (v:Value) (t:List Row):Prop :=
 ∃ a cap,v=.slice a t.length cap∧t.length≤cap∧cap≤maxLen∧(a=none→cap=0) ∧
  (t=[]∨∃ b off,a=some ⟨b,off,none⟩∧b < w.heap.size∧∀ i,i < t.length→Cells5 w b (off+i * 5) (t.getD i Row.zero))

theorem Tab.later {w w':World} {v:Value} {t:List Row} (h:Tab w v t) (hb:Below w.heap.size w w'):Tab w' v t:=by
 obtain⟨a,cap,h1,h2,h3,h4,h5⟩:=h
 refine ⟨a,cap,h1,h2,h3,h4,?_⟩
 rcases h5 with h5 | ⟨b,off,e,hlt,hc⟩
 ·exact .inl h5
 ·exact .inr ⟨b,off,e,Nat.lt_of_lt_of_le hlt hb.size,fun i hi => (hc i hi).later hb hlt⟩

theorem tab_nil (w:World):Tab w (.slice none 0 0) []:=⟨none,0,rfl,by simp,by simp,fun _ => rfl,.inl rfl⟩

theorem Tab.row {w wr:World} {a:Option Addr} {n cap:Nat} {t:List Row} (h:Tab w (.slice a n cap) t) (hb:Below w.heap.size w wr) (k:Nat) (hk:k < t.length) :
  ∃ b off,a=some ⟨b,off,none⟩∧Cells5 wr b (off+k * 5) (t.getD k Row.zero):=by
 obtain⟨a',cap',e,_,_,_,h⟩:=h.later hb
 simp only [Value.slice.injEq] at e
 rcases h with h | ⟨b,off,e',_,hc⟩
 ·rw [h] at hk; simp at hk
 ·exact⟨b,off,e.1.trans e',hc k hk⟩

theorem Tab.open' {w:World} {v:Value} {t:List Row} (h:Tab w v t):∃ a cap,v=.slice a t.length cap∧t.length≤9223372036854775807:=by
 obtain⟨a,cap,e,h1,h2,_⟩:=h
 unfold maxLen at h2
 exact⟨a,cap,e,by omega⟩

def Short (t:List Row):Prop:=∀ r ∈ t,r.c.length≤4294967296∧r.v.st.length≤4294967296

theorem Short.get {t:List Row} (h:Short t) {k:Nat} (hk:k < t.length):(t.getD k Row.zero).c.length≤4294967296∧(t.getD k Row.zero).v.st.length≤4294967296:=by
 rw [← row_get hk]
 exact h _ (List.getElem_mem hk)

/-! ### '==' -/

theorem val_eqIn (d:Nat) (a b c a' b' c':Int) (s s':List UInt8) (w:World) :
  (Op.equalIn (d+1+1) 40 (.agg #[.int .i64 a,.int .i64 b,.int .i64 c,.string ⟨s.toArray⟩]) (.agg #[.int .i64 a',.int .i64 b',.int .i64 c',.string ⟨s'.toArray⟩])).run Try.prog w=.ok (vSame ⟨a,b,c,s⟩ ⟨a',b',c',s'⟩) w:=by
 have hS:Try.prog.underlying 40=some (.struct (Try.prog.fieldsOf 40)):=by kernel_rfl
 have hp:Try.prog.stoodInHeld 40=false:=by kernel_rfl
 have u3:=Try.underlying3
 have u9:=Try.underlying9
 have a3:=Try.isAgg3
 have z3:=Try.sizeOf3
 have a9:=Try.isAgg9
 have z9:=Try.sizeOf9
 rw [run_equalIn_agg w (d+1) 40 _ _ hS hp]
 simp only [Program.fieldsOf,Try.underlying40]
 go_simp
 unfold vSame
 by_cases h1:a=a' <;> by_cases h2:b=b' <;> by_cases h3:c=c' <;> by_cases h4:s=s' <;> simp [h1,h2,h3,h4]

theorem val_eql5 (a b c a' b' c':Int) (s s':List UInt8) (w:World) :
  (binOp .eql 40 (.agg #[.int .i64 a,.int .i64 b,.int .i64 c,.string ⟨s.toArray⟩]) (.agg #[.int .i64 a',.int .i64 b',.int .i64 c',.string ⟨s'.toArray⟩])).run Try.prog w=.ok (.bool (vSame ⟨a,b,c,s⟩ ⟨a',b',c',s'⟩)) w:=by
 rw [run_eql_struct,show (10000:Nat)=9998+1+1 from rfl,val_eqIn 9998]
 rfl

theorem val_neq5 (a b c a' b' c':Int) (s s':List UInt8) (w:World) :
  (binOp .neq 40 (.agg #[.int .i64 a,.int .i64 b,.int .i64 c,.string ⟨s.toArray⟩]) (.agg #[.int .i64 a',.int .i64 b',.int .i64 c',.string ⟨s'.toArray⟩])).run Try.prog w=.ok (.bool (!vSame ⟨a,b,c,s⟩ ⟨a',b',c',s'⟩)) w:=by
 rw [run_neq_struct,show (10000:Nat)=9998+1+1 from rfl,val_eqIn 9998]
 rfl

theorem chg_eqIn (d:Nat) (k k':List UInt8) (o o':Bool) (a b c a' b' c':Int) (s s':List UInt8) (w:World) :
  (Op.equalIn (d+1+1+1) 42 (.agg #[.string ⟨k.toArray⟩,.bool o,.int .i64 a,.int .i64 b,.int .i64 c,.string ⟨s.toArray⟩]) (.agg #[.string ⟨k'.toArray⟩,.bool o',.int .i64 a',.int .i64 b',.int .i64 c',.string ⟨s'.toArray⟩])).run Try.prog w=.ok (cSame ⟨k,o,a,b,c,s⟩ ⟨k',o',a',b',c',s'⟩) w:=by
 have hS:Try.prog.underlying 42=some (.struct (Try.prog.fieldsOf 42)):=by kernel_rfl
 have hp:Try.prog.stoodInHeld 42=false:=by kernel_rfl
 have u4:=Try.underlying4
 have a4:=Try.isAgg4
 have z4:=Try.sizeOf4
 have u9:=Try.underlying9
 have a9:=Try.isAgg9
 have z9:=Try.sizeOf9
 have a35:=Try.isAgg40
 have z35:=Try.sizeOf40
 have hv:=fun w => val_eqIn d a b c a' b' c' s s' w
 rw [run_equalIn_agg w (d+1+1) 42 _ _ hS hp]
 simp only [Program.fieldsOf,Try.underlying42]
 clear hS hp
 go_simp
 unfold cSame
 by_cases hk:k=k'
 ·subst hk
  cases o <;> cases o' <;> cases vSame ⟨a,b,c,s⟩ ⟨a',b',c',s'⟩ <;> simp
 ·have:(k == k')=false:=by simpa using hk
  rw [if_neg hk]
  simp [this]

theorem chg_neq6 (k k':List UInt8) (o o':Bool) (a b c a' b' c':Int) (s s':List UInt8) (w:World) :
  (binOp .neq 42 (.agg #[.string ⟨k.toArray⟩,.bool o,.int .i64 a,.int .i64 b,.int .i64 c,.string ⟨s.toArray⟩]) (.agg #[.string ⟨k'.toArray⟩,.bool o',.int .i64 a',.int .i64 b',.int .i64 c',.string ⟨s'.toArray⟩])).run Try.prog w=.ok (.bool (!cSame ⟨k,o,a,b,c,s⟩ ⟨k',o',a',b',c',s'⟩)) w:=by
 rw [run_neq_struct,show (10000:Nat)=9997+1+1+1 from rfl,chg_eqIn 9997]
 rfl

/-! ### Few -/

def fewT (t:List Row):Bool:=decide (t.length≤40) && t.all fun r => decide (r.c.length≤60) && decide (r.v.st.length≤100)

/-! ### Two tables -/
end
section
open Go.Shelf Go.RowKit

def Try.lays169_ren:Go.Shelf.Ren:=⟨fun | 169 => 65 | n => n,fun | 70 => 104 | 9 => 9 | 0 => 0 | 72 => 107 | 37 => 105 | 127 => 121 | 3 => 3 | 5 => 5 | n => n,fun | n => n⟩

theorem Try.lays169:Go.Proofs.Lays.n169 Try.prog Try.lays169_ren:={
 mixed:=by kernel_rfl
 f169:=Try.func65.trans (congrArg some (by kernel_rfl))
 t0:=Try.underlying0
 a0:=Try.isAgg0
 z0:=Try.sizeOf0
 v0:=Try.zeroValue0
 t3:=Try.underlying3
 a3:=Try.isAgg3
 z3:=Try.sizeOf3
 v3:=Try.zeroValue3
 t9:=Try.underlying9
 a9:=Try.isAgg9
 z9:=Try.sizeOf9
 v9:=Try.zeroValue9
 t37:=Try.underlying105
 a37:=Try.isAgg105
 z37:=Try.sizeOf105
 v37:=Try.zeroValue105
 t70:=Try.underlying104
 a70:=Try.isAgg104
 z70:=Try.sizeOf104
 v70:=Try.zeroValue104
 t72:=Try.underlying107
 a72:=Try.isAgg107
 z72:=Try.sizeOf107
 v72:=Try.zeroValue107
 t127:=Try.underlying121
 a127:=Try.isAgg121
 z127:=Try.sizeOf121
 v127:=Try.zeroValue121 }

theorem Try.Builder_Extra_169:Builder.Extra Try.prog Try.lays169_ren:={
 sizeBuilder:=by kernel_rfl
 liesBuilder:=by kernel_rfl
 t5:=Try.underlying5
 a5:=Try.isAgg5
 z5:=Try.sizeOf5
 v5:=Try.zeroValue5
 infoByte:=by kernel_rfl
 cellsByte:=by kernel_rfl
 sizeByte:=by kernel_rfl
 neB5:=by decide }

def Try.lays106_ren:Go.Shelf.Ren:=⟨fun | 106 => 56 | 213 => 60 | 265 => 69 | n => n,fun | 9 => 9 | 3 => 3 | n => n,fun | n => n⟩

theorem Try.lays106:Go.Proofs.Lays.n106 Try.prog Try.lays106_ren:={
 mixed:=by kernel_rfl
 f106:=Try.func56.trans (congrArg some (by kernel_rfl))
 f213:=Try.func60.trans (congrArg some (by kernel_rfl))
 f265:=Try.func69.trans (congrArg some (by kernel_rfl))
 t3:=Try.underlying3
 a3:=Try.isAgg3
 z3:=Try.sizeOf3
 v3:=Try.zeroValue3
 t9:=Try.underlying9
 a9:=Try.isAgg9
 z9:=Try.sizeOf9
 v9:=Try.zeroValue9 }

open Go.RowKit in
theorem Try.strings_Compare (a b:ByteArray) (w:World) :
  Calls Try.prog 56 #[.string a,.string b] w fun e w' => e=.returned (.int .i64 (Lib.compareBytes a.data.toList b.data.toList))∧w'=w:=Any.strings_Compare Try.lays106 a b w

def Try.lays122_ren:Go.Shelf.Ren:=⟨fun | 122 => 55 | 215 => 59 | n => n,fun | 3 => 3 | 4 => 4 | n => n,fun | n => n⟩

theorem Try.lays122:Go.Proofs.Lays.n122 Try.prog Try.lays122_ren:={
 mixed:=by kernel_rfl
 f122:=Try.func55.trans (congrArg some (by kernel_rfl))
 f215:=Try.func59.trans (congrArg some (by kernel_rfl))
 t3:=Try.underlying3
 a3:=Try.isAgg3
 z3:=Try.sizeOf3
 v3:=Try.zeroValue3
 t4:=Try.underlying4
 a4:=Try.isAgg4
 z4:=Try.sizeOf4
 v4:=Try.zeroValue4 }

open Go.RowKit in
theorem Try.cmp_Compare_int (x y:Int) (w:World) :
  Calls Try.prog 55 #[.int .i64 x,.int .i64 y] w fun e w' => e=.returned (.int .i64 (Lib.compareInt x y))∧w'=w:=Any.cmp_Compare_int Try.lays122 x y w

open Go.RowKit in
theorem Try.Builder_String_any_k (B b:Nat) (l:List UInt8) (w:World) (h:Lib.IsBuilderF 107 5 B b (Lib.byteCells l) w) (hBw:B≤w.heap.size) :
  Calls Try.prog 65 #[.pointer (some ⟨b,0,none⟩)] w fun e w' => e=.returned (.string ⟨l.toArray⟩)∧(Lib.IsBuilderF 107 5 B b (Lib.byteCells l) w'∧Below B w w'∧Lib.OthersKept 5 (some b) w w'):=Any.Builder_String_any_k Try.lays169 Try.Builder_Extra_169 B b l w h hBw

def Try.lays194_ren:Go.Shelf.Ren:=⟨fun | 194 => 68 | n => n,fun | 31 => 101 | 9 => 9 | 3 => 3 | 4 => 4 | 0 => 0 | n => n,fun | n => n⟩

theorem Try.lays194:Go.Proofs.Lays.n194 Try.prog Try.lays194_ren:={
 mixed:=by kernel_rfl
 f194:=Try.func68.trans (congrArg some (by kernel_rfl))
 t0:=Try.underlying0
 a0:=Try.isAgg0
 z0:=Try.sizeOf0
 v0:=Try.zeroValue0
 t3:=Try.underlying3
 a3:=Try.isAgg3
 z3:=Try.sizeOf3
 v3:=Try.zeroValue3
 t4:=Try.underlying4
 a4:=Try.isAgg4
 z4:=Try.sizeOf4
 v4:=Try.zeroValue4
 t9:=Try.underlying9
 a9:=Try.isAgg9
 z9:=Try.sizeOf9
 v9:=Try.zeroValue9
 t31:=Try.underlying101
 a31:=Try.isAgg101
 z31:=Try.sizeOf101
 v31:=Try.zeroValue101 }

open Go.RowKit Go.Lib Go.Sort in
theorem Try.slices_Compact_string_empty (a:Option Addr) (cap:Nat) (w:World) :
  Calls Try.prog 68 #[.slice a 0 cap] w fun e w' => e=.returned (.slice a 0 cap)∧w'=w:=Any.slices_Compact_string_empty Try.lays194 a cap w

def Try.laysSlE43_f37_ren:Go.Shelf.Ren:=⟨fun | 43 => 68 | n => n,fun | 22 => 101 | 23 => 9 | 3 => 3 | 4 => 4 | 0 => 0 | n => n,fun | n => n⟩

theorem Try.laysSlE43_f37:Go.Proofs.SlLaysE.n43 Try.prog Try.laysSlE43_f37_ren:={
 mixed:=by kernel_rfl
 f43:=⟨Try.f68.name,by decide,Try.func68.trans (congrArg some (by kernel_rfl))⟩
 t0:=Try.underlying0
 a0:=Try.isAgg0
 z0:=Try.sizeOf0
 v0:=Try.zeroValue0
 t3:=Try.underlying3
 a3:=Try.isAgg3
 z3:=Try.sizeOf3
 v3:=Try.zeroValue3
 t4:=Try.underlying4
 a4:=Try.isAgg4
 z4:=Try.sizeOf4
 v4:=Try.zeroValue4
 t22:=Try.underlying101
 a22:=Try.isAgg101
 z22:=Try.sizeOf101
 v22:=Try.zeroValue101
 a23:=Try.isAgg9
 z23:=Try.sizeOf9 }

open Go.RowKit Go.Lib Go.Sort in
theorem Try.slices_Compact {α:Type} [Inhabited α] [DecidableEq α] (enc:α→Value) (hO:OneCell enc) (heq:EqlAt Try.prog 9 enc (fun x y => decide (x=y))) (hne:NeqAt Try.prog 9 enc (fun x y => decide (x=y))) (zr:α) (v23:∀ w,(zeroValue 9).run Try.prog w=.ok (enc zr) w) (blk off cap:Nat) (d:Array α) (w:World) (hH:Holds enc w blk off d) (hsz:d.size≤9223372036854775807) (hcap:d.size≤cap) :
  Calls Try.prog 68 #[.slice (some ⟨blk,off,none⟩) d.size cap] w fun e w' => e=.returned (.slice (some ⟨blk,off,none⟩) (compactUpTo d d.size).length cap)∧∃ q,w'=putRow enc (Sort.ahead w q) blk off (compactUpTo d d.size ++ List.replicate (d.size - (compactUpTo d d.size).length) zr).toArray:=AnyE.slices_Compact Try.laysSlE43_f37 enc hO heq hne zr v23 blk off cap d w hH hsz hcap

def Try.laysSlF6_f36_ren:Go.Shelf.Ren:=⟨fun | 6 => 67 | 15 => 74 | 14 => 73 | 28 => 84 | 29 => 85 | 20 => 76 | 21 => 77 | 22 => 78 | 23 => 79 | 24 => 80 | 25 => 81 | 26 => 82 | 27 => 83 | 46 => 86 | 47 => 87 | 48 => 88 | 49 => 89 | 50 => 90 | 57 => 91 | n => n,fun | 22 => 101 | 24 => 9 | 25 => 90 | 3 => 3 | 39 => 119 | 0 => 0 | 53 => 136 | 55 => 46 | 4 => 4 | 46 => 130 | 45 => 129 | 50 => 82 | 5 => 5 | 9 => 9 | 66 => 138 | 70 => 142 | 76 => 144 | 77 => 145 | n => n,fun | n => n⟩

theorem Try.laysSlF6_f36:Go.Proofs.SlLaysF.n6 Try.prog Try.laysSlF6_f36_ren:={
 mixed:=by kernel_rfl
 f6:=⟨Try.f67.name,by decide,Try.func67.trans (congrArg some (by kernel_rfl))⟩
 f14:=⟨Try.f73.name,by decide,Try.func73.trans (congrArg some (by kernel_rfl))⟩
 f15:=Try.func74.trans (congrArg some (by kernel_rfl))
 f20:=⟨Try.f76.name,by decide,Try.func76.trans (congrArg some (by kernel_rfl))⟩
 f21:=⟨Try.f77.name,by decide,Try.func77.trans (congrArg some (by kernel_rfl))⟩
 f22:=⟨Try.f78.name,by decide,Try.func78.trans (congrArg some (by kernel_rfl))⟩
 f23:=⟨Try.f79.name,by decide,Try.func79.trans (congrArg some (by kernel_rfl))⟩
 f24:=⟨Try.f80.name,by decide,Try.func80.trans (congrArg some (by kernel_rfl))⟩
 f25:=⟨Try.f81.name,by decide,Try.func81.trans (congrArg some (by kernel_rfl))⟩
 f26:=⟨Try.f82.name,by decide,Try.func82.trans (congrArg some (by kernel_rfl))⟩
 f27:=⟨Try.f83.name,by decide,Try.func83.trans (congrArg some (by kernel_rfl))⟩
 f28:=Try.func84.trans (congrArg some (by kernel_rfl))
 f29:=Try.func85.trans (congrArg some (by kernel_rfl))
 f46:=⟨Try.f86.name,by decide,Try.func86.trans (congrArg some (by kernel_rfl))⟩
 f47:=Try.func87.trans (congrArg some (by kernel_rfl))
 f48:=Try.func88.trans (congrArg some (by kernel_rfl))
 f49:=⟨Try.f89.name,by decide,Try.func89.trans (congrArg some (by kernel_rfl))⟩
 f50:=⟨Try.f90.name,by decide,Try.func90.trans (congrArg some (by kernel_rfl))⟩
 f57:=⟨Try.f91.name,by decide,Try.func91.trans (congrArg some (by kernel_rfl))⟩
 t0:=Try.underlying0
 a0:=Try.isAgg0
 z0:=Try.sizeOf0
 v0:=Try.zeroValue0
 t3:=Try.underlying3
 a3:=Try.isAgg3
 z3:=Try.sizeOf3
 v3:=Try.zeroValue3
 t4:=Try.underlying4
 a4:=Try.isAgg4
 z4:=Try.sizeOf4
 v4:=Try.zeroValue4
 t5:=Try.underlying5
 a5:=Try.isAgg5
 z5:=Try.sizeOf5
 v5:=Try.zeroValue5
 t9:=Try.underlying9
 a9:=Try.isAgg9
 z9:=Try.sizeOf9
 v9:=Try.zeroValue9
 t22:=Try.underlying101
 a22:=Try.isAgg101
 z22:=Try.sizeOf101
 v22:=Try.zeroValue101
 a24:=Try.isAgg9
 z24:=Try.sizeOf9
 t25:=Try.underlying90
 a25:=Try.isAgg90
 z25:=Try.sizeOf90
 v25:=Try.zeroValue90
 t39:=Try.underlying119
 a39:=Try.isAgg119
 z39:=Try.sizeOf119
 v39:=Try.zeroValue119
 t45:=Try.underlying129
 a45:=Try.isAgg129
 z45:=Try.sizeOf129
 v45:=Try.zeroValue129
 t46:=Try.underlying130
 a46:=Try.isAgg130
 z46:=Try.sizeOf130
 v46:=Try.zeroValue130
 t50:=Try.underlying82
 a50:=Try.isAgg82
 z50:=Try.sizeOf82
 v50:=Try.zeroValue82
 t53:=Try.underlying136
 a53:=Try.isAgg136
 z53:=Try.sizeOf136
 v53:=Try.zeroValue136
 t55:=Try.underlying46
 a55:=Try.isAgg46
 z55:=Try.sizeOf46
 v55:=Try.zeroValue46
 t66:=Try.underlying138
 a66:=Try.isAgg138
 z66:=Try.sizeOf138
 v66:=Try.zeroValue138
 t70:=Try.underlying142
 a70:=Try.isAgg142
 z70:=Try.sizeOf142
 v70:=Try.zeroValue142
 t76:=Try.underlying144
 a76:=Try.isAgg144
 z76:=Try.sizeOf144
 v76:=Try.zeroValue144
 t77:=Try.underlying145
 a77:=Try.isAgg145
 z77:=Try.sizeOf145
 v77:=Try.zeroValue145 }

def Try.laysSlF06_f36_ren:Go.Shelf.Ren:=⟨fun | 6 => 67 | 15 => 74 | 14 => 73 | 28 => 84 | 29 => 85 | 20 => 76 | 21 => 77 | 22 => 78 | 23 => 79 | 24 => 80 | 25 => 81 | 26 => 82 | 27 => 83 | 46 => 86 | 47 => 87 | 48 => 88 | 49 => 89 | 50 => 90 | 57 => 91 | n => n,fun | 22 => 101 | 24 => 9 | 25 => 90 | 3 => 3 | 39 => 119 | 0 => 0 | 53 => 136 | 55 => 46 | 4 => 4 | 46 => 130 | 45 => 129 | 50 => 82 | 5 => 5 | 9 => 9 | 66 => 138 | 70 => 142 | 76 => 144 | 77 => 145 | n => n,fun | n => n⟩

theorem Try.laysSlF06_f36:Go.Proofs.SlLaysF0.n6 Try.prog Try.laysSlF06_f36_ren:={
 mixed:=by kernel_rfl
 f6:=⟨Try.f67.name,by decide,Try.func67.trans (congrArg some (by kernel_rfl))⟩
 f14:=⟨Try.f73.name,by decide,Try.func73.trans (congrArg some (by kernel_rfl))⟩
 f15:=Try.func74.trans (congrArg some (by kernel_rfl))
 f20:=⟨Try.f76.name,by decide,Try.func76.trans (congrArg some (by kernel_rfl))⟩
 f21:=⟨Try.f77.name,by decide,Try.func77.trans (congrArg some (by kernel_rfl))⟩
 f22:=⟨Try.f78.name,by decide,Try.func78.trans (congrArg some (by kernel_rfl))⟩
 f23:=⟨Try.f79.name,by decide,Try.func79.trans (congrArg some (by kernel_rfl))⟩
 f24:=⟨Try.f80.name,by decide,Try.func80.trans (congrArg some (by kernel_rfl))⟩
 f25:=⟨Try.f81.name,by decide,Try.func81.trans (congrArg some (by kernel_rfl))⟩
 f26:=⟨Try.f82.name,by decide,Try.func82.trans (congrArg some (by kernel_rfl))⟩
 f27:=⟨Try.f83.name,by decide,Try.func83.trans (congrArg some (by kernel_rfl))⟩
 f28:=Try.func84.trans (congrArg some (by kernel_rfl))
 f29:=Try.func85.trans (congrArg some (by kernel_rfl))
 f46:=⟨Try.f86.name,by decide,Try.func86.trans (congrArg some (by kernel_rfl))⟩
 f47:=Try.func87.trans (congrArg some (by kernel_rfl))
 f48:=Try.func88.trans (congrArg some (by kernel_rfl))
 f49:=⟨Try.f89.name,by decide,Try.func89.trans (congrArg some (by kernel_rfl))⟩
 f50:=⟨Try.f90.name,by decide,Try.func90.trans (congrArg some (by kernel_rfl))⟩
 f57:=⟨Try.f91.name,by decide,Try.func91.trans (congrArg some (by kernel_rfl))⟩
 t0:=Try.underlying0
 a0:=Try.isAgg0
 z0:=Try.sizeOf0
 v0:=Try.zeroValue0
 t3:=Try.underlying3
 a3:=Try.isAgg3
 z3:=Try.sizeOf3
 v3:=Try.zeroValue3
 t4:=Try.underlying4
 a4:=Try.isAgg4
 z4:=Try.sizeOf4
 v4:=Try.zeroValue4
 t5:=Try.underlying5
 a5:=Try.isAgg5
 z5:=Try.sizeOf5
 v5:=Try.zeroValue5
 t9:=Try.underlying9
 a9:=Try.isAgg9
 z9:=Try.sizeOf9
 v9:=Try.zeroValue9
 t22:=Try.underlying101
 a22:=Try.isAgg101
 z22:=Try.sizeOf101
 v22:=Try.zeroValue101
 t25:=Try.underlying90
 a25:=Try.isAgg90
 z25:=Try.sizeOf90
 v25:=Try.zeroValue90
 t39:=Try.underlying119
 a39:=Try.isAgg119
 z39:=Try.sizeOf119
 v39:=Try.zeroValue119
 t45:=Try.underlying129
 a45:=Try.isAgg129
 z45:=Try.sizeOf129
 v45:=Try.zeroValue129
 t46:=Try.underlying130
 a46:=Try.isAgg130
 z46:=Try.sizeOf130
 v46:=Try.zeroValue130
 t50:=Try.underlying82
 a50:=Try.isAgg82
 z50:=Try.sizeOf82
 v50:=Try.zeroValue82
 t53:=Try.underlying136
 a53:=Try.isAgg136
 z53:=Try.sizeOf136
 v53:=Try.zeroValue136
 t55:=Try.underlying46
 a55:=Try.isAgg46
 z55:=Try.sizeOf46
 v55:=Try.zeroValue46
 t66:=Try.underlying138
 a66:=Try.isAgg138
 z66:=Try.sizeOf138
 v66:=Try.zeroValue138
 t70:=Try.underlying142
 a70:=Try.isAgg142
 z70:=Try.sizeOf142
 v70:=Try.zeroValue142
 t76:=Try.underlying144
 a76:=Try.isAgg144
 z76:=Try.sizeOf144
 v76:=Try.zeroValue144
 t77:=Try.underlying145
 a77:=Try.isAgg145
 z77:=Try.sizeOf145
 v77:=Try.zeroValue145 }

open Go.RowKit Go.Lib Go.Sort in
theorem Try.slices_SortFunc_none {α:Type} [Inhabited α] (p:Option Addr) (cap:Nat) (fv:Value) (w:World) :
  Calls Try.prog 67 #[.slice p 0 cap,fv] w fun e w' => e=.returned (.tuple #[])∧w'=w:=AnyF.slices_SortFunc_none Try.laysSlF06_f36 p cap fv w

open Go.RowKit Go.Lib Go.Sort in
theorem Try.slices_SortFunc_total {α:Type} [Inhabited α] (enc:α→Value) (h1:OneCell enc) (cf:α→α→Int) (hO:SWO (ltOf cf)) (g:Nat) (cb:Array Value) (blk off cap:Nat) (d:Array α) (w:World) (eg:∀ args w,(callFunc g args).run Try.prog w=.ok (.enter g args) w) (hcmp:CmpLays1 Try.prog g cb enc cf blk off d.size w) (hH:Holds enc w blk off d) (hblk:blk < w.heap.size) (hsz:d.size < 4611686018427387904) (hT:∀ x y,(ltOf cf) x y=false→(ltOf cf) y x=false→x=y) :
  Calls Try.prog 67 #[.slice (some ⟨blk,off,none⟩) d.size cap,.func (.func g) #[] cb] w fun e w' =>
   e=.returned (.tuple #[])∧∃ n os,w'=sortWorld enc w blk off n (d.toList.mergeSort fun x y => !(ltOf cf) y x).toArray os:=Any.slices_SortFunc_total Try.laysSlF6_f36 enc h1 cf hO g cb blk off cap d w eg hcmp hH hblk hsz hT
end
section
open Go.RowKit Go.Lib

theorem icmp (x y:Int) (w:World):Calls Try.prog 55 #[.int .i64 x,.int .i64 y] w fun e w' => e=.returned (.int .i64 (compareInt x y))∧w=w' :=
 (Try.cmp_Compare_int x y w).mono fun _ _ ⟨he,hw⟩ => ⟨he,hw.symm⟩

theorem scmp (a b:List UInt8) (w:World):Calls Try.prog 56 #[.string ⟨a.toArray⟩,.string ⟨b.toArray⟩] w fun e w' => e=.returned (.int .i64 (compareBytes a b))∧w=w' :=
 (Try.strings_Compare ⟨a.toArray⟩ ⟨b.toArray⟩ w).mono fun _ _ ⟨he,hw⟩ => ⟨by simpa using he,hw.symm⟩

def orI (x y:Int):Int:=if x=0 then y else x

theorem or_any (B:Nat) (x y:Int) (w:World) (k0:w.cell? ⟨B,0,none⟩=some (.int .i64 x)) (k1:w.cell? ⟨B,1,none⟩=some (.int .i64 y)) :
  Calls Try.prog 54 #[.slice (some ⟨B,0,none⟩) 2 2] w fun e w' => e=.returned (.int .i64 (orI x y))∧w=w':=by
 by_cases hx:x=0
 ·subst hx
  by_cases hy:y=0
  ·subst hy
   go_enter Try.func54,Try.ntmps54
   go_wp2_with fail
   refine wp_loop_rounds 3 ?_
   rw [rounds_succ]
   go_wp2_with fail
   rw [rounds_succ]
   go_wp2_with fail
   rw [rounds_succ]
   go_wp2_with fail
   go_ret
   exact⟨rfl,rfl⟩
  ·have t1:(y != 0)=true:=by simp [hy]
   clear hy
   go_enter Try.func54,Try.ntmps54
   go_wp2_with fail
   refine wp_loop_rounds 3 ?_
   rw [rounds_succ]
   go_wp2_with fail
   rw [rounds_succ]
   go_wp2_with fail
   go_ret
   exact⟨rfl,rfl⟩
 ·have t1:(x != 0)=true:=by simp [hx]
  have HX:Hid (orI x y=x):=if_neg hx
  clear hx
  go_enter Try.func54,Try.ntmps54
  go_wp2_with fail
  refine wp_loop_rounds 3 ?_
  rw [rounds_succ]
  go_wp2_with fail
  go_ret
  exact⟨by rw [HX.out]; rfl,rfl⟩

theorem idCmp_or (a b:List UInt8):idCmp a b=orI (compareInt a.length b.length) (compareBytes a b):=by
 unfold idCmp compareInt orI
 by_cases h1:a.length < b.length
 ·have:(a.length:Int) < b.length:=by omega
  simp [h1,this]
 ·by_cases h2:b.length < a.length
  ·have h1':¬ (a.length:Int) < b.length:=by omega
   have h2':(b.length:Int) < a.length:=by omega
   simp [h1,h2,h1',h2']
  ·have h1':¬ (a.length:Int) < b.length:=by omega
   have h2':¬ (b.length:Int) < a.length:=by omega
   simp [h1,h2,h1',h2']

theorem compare_any (a b:List UInt8) (w:World) :
  Calls Try.prog 48 #[.string ⟨a.toArray⟩,.string ⟨b.toArray⟩] w fun e w' => e=.returned (.int .i64 (idCmp a b))∧∃ o,w'=w.alloc o:=by
 have HI:=hZq (idCmp_or a b)
 have H1:=hZq (icmp a.length b.length)
 have H2:=hZq (scmp a b)
 obtain⟨x,hx⟩ : ∃ x,compareInt a.length b.length=x:=⟨_,rfl⟩
 obtain⟨y,hy⟩ : ∃ y,compareBytes a b=y:=⟨_,rfl⟩
 rw [hx] at H1 HI
 rw [hy] at H2 HI
 clear hx hy
 go_enter Try.func48,Try.ntmps48
 go_wp2_with fail
 refine (H1.out _).mono ?_
 rintro e w' ⟨rfl,rfl⟩
 go_wp2_with fail
 refine (H2.out _).mono ?_
 rintro e w' ⟨rfl,rfl⟩
 go_wp2_with fail
 refine (or_any _ x y _ (by simp) (by simp)).mono ?_
 rintro e w' ⟨rfl,rfl⟩
 go_wp2_with fail
 go_ret
 exact⟨by rw [HI.out]; rfl,_,rfl⟩

theorem compare_eq (a b:List UInt8) {n:Int} (h:Hid (idCmp a b=n)) (w:World) :
  Calls Try.prog 48 #[.string ⟨a.toArray⟩,.string ⟨b.toArray⟩] w fun e w' => e=.returned (.int .i64 n)∧Below w.heap.size w w':=by
 have h1:=h.out
 subst h1
 exact (compare_any a b w).mono fun _ _ ⟨he,o,hw⟩ => ⟨he,by rw [hw]; exact (Below.refl _ _).alloc (Nat.le_refl _) _⟩

theorem less_eq (a b:List UInt8) {r:Bool} (h:Hid (idLess a b=r)) (w:World) :
  Calls Try.prog 31 #[.string ⟨a.toArray⟩,.string ⟨b.toArray⟩] w fun e w' => e=.returned (.bool r)∧Below w.heap.size w w':=by
 obtain⟨n,hn⟩ : ∃ n,Hid (idCmp a b=n):=⟨_,rfl⟩
 have hr:Hid (decide (n < 0)=r):=by show _=_; rw [← hn.out]; exact h.out
 go_enter Try.func31,Try.ntmps31
 go_wp2_with fail
 refine (compare_eq a b hn _).mono ?_
 rintro e w1 ⟨rfl,hb1⟩
 have B1:=hZq hb1
 clear hb1
 go_wp2_with fail
 go_ret
 exact⟨by rw [← hr.out]; rfl,B1.out⟩
end
section
open Go.RowKit

def runeLc (r:Int):Bool:=decide (97≤r) && decide (r≤122)
def runeIn (r:Int):Bool:=(decide (48≤r) && decide (r≤57)) || decide (r=45)

theorem letter_eq (r:Int) {b:Bool} (h:Hid (runeLc r=b)) (w:World) :
  Calls Try.prog 45 #[.int .i32 r] w fun e w' => e=.returned (.bool b)∧w=w':=by
 have h':=h.out
 unfold runeLc at h'
 clear h
 by_cases h1:97≤r
 ·by_cases h2:r≤122
  ·obtain rfl:b=true:=by rw [← h']; simp [h1,h2]
   clear h'
   go_enter Try.func45,Try.ntmps45
   go_wp2_with fail
   go_ret
   exact⟨by first | rfl | simp_all,rfl⟩
  ·obtain rfl:b=false:=by rw [← h']; simp [h2]
   have h3:122 < r:=by omega
   clear h' h2
   go_enter Try.func45,Try.ntmps45
   go_wp2_with fail
   go_ret
   exact⟨by first | rfl | simp_all,rfl⟩
 ·obtain rfl:b=false:=by rw [← h']; simp [h1]
  have h3:r < 97:=by omega
  clear h' h1
  go_enter Try.func45,Try.ntmps45
  go_wp2_with fail
  go_ret
  exact⟨by first | rfl | simp_all,rfl⟩

theorem inner_eq (r:Int) {b:Bool} (h:Hid (runeIn r=b)) (w:World) :
  Calls Try.prog 46 #[.int .i32 r] w fun e w' => e=.returned (.bool b)∧w=w':=by
 have h':=h.out
 unfold runeIn at h'
 clear h
 by_cases h0:r=45
 ·subst h0
  obtain rfl:b=true:=by rw [← h']; decide
  clear h'
  go_enter Try.func46,Try.ntmps46
  go_wp2_with fail
  go_ret
  exact⟨rfl,rfl⟩
 ·have t0:(r == 45)=false:=by simpa using h0
  by_cases h1:48≤r
  ·by_cases h2:r≤57
   ·obtain rfl:b=true:=by rw [← h']; simp [h1,h2]
    clear h' h0
    go_enter Try.func46,Try.ntmps46
    go_wp2_with fail
    go_ret
    exact⟨rfl,rfl⟩
   ·obtain rfl:b=false:=by rw [← h']; simp [h2,h0]
    have h3:decide (r≤57)=false:=by simp; omega
    clear h' h2 h0
    go_enter Try.func46,Try.ntmps46
    go_wp2_with fail
    go_ret
    exact⟨rfl,rfl⟩
  ·obtain rfl:b=false:=by rw [← h']; simp [h1,h0]
   have h3:r < 48:=by omega
   clear h' h1 h0
   go_enter Try.func46,Try.ntmps46
   go_wp2_with fail
   go_ret
   exact⟨rfl,rfl⟩

theorem runeLc_byte (b:UInt8):runeLc (b.toNat:Int)=lcOk b:=by
 unfold runeLc lcOk
 rw [Bool.eq_iff_iff]
 simp
 omega

theorem runeIn_byte (b:UInt8):runeIn (b.toNat:Int)=dgOk b:=by
 unfold runeIn dgOk
 rw [Bool.eq_iff_iff]
 simp
 omega

theorem rune_high {r:Nat} (h:128≤r):runeLc (r:Int)=false∧runeIn (r:Int)=false:=by
 unfold runeLc runeIn
 constructor
 ·rw [Bool.eq_false_iff]; simp; omega
 ·rw [Bool.eq_false_iff]; simp; omega

theorem all_succ {l:List UInt8} {k:Nat} {b:UInt8} (hb:l[k]?=some b) (p:UInt8→Bool):(l.take (k+1)).all p=((l.take k).all p && p b):=by
 obtain⟨h1,h2⟩:=List.getElem?_eq_some_iff.1 hb
 rw [List.take_succ_eq_append_getElem h1,h2,List.all_append]
 simp

theorem idIs_bad {l:List UInt8} {k:Nat} {b:UInt8} (hb:l[k]?=some b) (h:inOk b=false):idIs l=false:=by
 rw [Bool.eq_false_iff]
 intro h'
 have:=List.all_eq_true.1 (idIs_parts h').2.2.2 b (List.mem_of_getElem? hb)
 rw [h] at this
 cases this

theorem idIs_first {l:List UInt8} {b:UInt8} (hb:l[0]?=some b) (h:lcOk b=false):idIs l=false:=by
 rw [Bool.eq_false_iff]
 intro h'
 have:=(idIs_parts h').2.2.1
 rw [List.getD,hb] at this
 simp [h] at this

theorem is_any (l:List UInt8) (hl:l.length≤4294967296) (w:World) :
  Calls Try.prog 29 #[.string ⟨l.toArray⟩] w fun e w' => e=.returned (.bool (idIs l))∧Below w.heap.size w w':=by
 by_cases h0:l=[]
 ·subst h0
  go_enter Try.func29,Try.ntmps29
  go_wp2_with fail
  go_ret
  exact⟨rfl,Below.refl _ _⟩
 ·have t0:(l == [])=false:=by simpa using h0
  have hpos:1≤l.length:=by
   rcases l with _ | ⟨_,_⟩
   ·exact absurd rfl h0
   ·simp
  by_cases h16:16 < l.length
  ·have HR:=hZq (idIs_long h16)
   have H0:=hZq h0
   clear h0
   go_enter Try.func29,Try.ntmps29
   go_wp2_with fail
   go_ret
   exact⟨by rw [HR.out]; rfl,Below.refl _ _⟩
  ·have H0:=hZq h0
   clear h0
   go_enter Try.func29,Try.ntmps29
   go_wp2_with fail
   go_loopw [] (fun wr => ∃ pos:Nat,pos≤l.length∧Hid (wr.heap[w.heap.size]?=some (.stringIter ⟨l.toArray⟩ pos))∧Below w.heap.size w wr∧Hid (pos=0∨lcOk (l.getD 0 0)=true)∧Hid ((l.take pos).all inOk=true)) (fun wr => l.length - wr.iterPos w.heap.size)
   case atStart => exact⟨0,by omega,World.iter_heap w _ 0,(Below.refl _ w).alloc (Nat.le_refl _) _,.inl rfl,by show _=_; simp⟩
   case round =>
    obtain⟨pos,hp,HI,hnx,HF,HA⟩:=hrel
    have HN:=hZq hnx
    have hpi:Hid (wr.iterPos w.heap.size=pos):=by show _=_; simp only [World.iterPos,HI.out]
    by_cases hlt:pos < l.length
    ·have hlt':pos < (⟨l.toArray⟩ : ByteArray).size:=by rw [size_bytes]; exact hlt
     obtain⟨b,hb⟩ : ∃ b:UInt8,(⟨l.toArray⟩ : ByteArray)[pos]'hlt'=b:=⟨_,rfl⟩
     have HB:Hid (l[pos]?=some b):=by rw [← hb]; exact bytes_at l pos hlt'
     have hb256:=b.toNat_lt
     by_cases h128:b.toNat < 128
     ·have hnext:=fun ty => Lib.run_next_ascii_at (P:=Try.prog) wr w.heap.size ⟨l.toArray⟩ pos ty HI.out hlt' (by rw [hb]; exact h128)
      rw [hb] at hnext
      have HI2:=hZq (Lib.iterAt_heap wr w.heap.size ⟨l.toArray⟩ pos (pos+1) HI.out)
      have HN2:=hZq (Lib.below_iterAt hnx (k:=w.heap.size) (Nat.le_refl _) ⟨l.toArray⟩ (pos+1))
      have hp2:Hid ((wr.iterAt w.heap.size ⟨l.toArray⟩ (pos+1)).iterPos w.heap.size=pos+1):=by show _=_; simp only [World.iterPos,HI2.out]
      clear hb hnx
      cases hl:lcOk b with
      | true =>
       have HL:Hid (runeLc (b.toNat:Int)=true):=by show _=_; rw [runeLc_byte]; exact hl
       have HA2:Hid ((l.take (pos+1)).all inOk=true):=by show _=_; rw [all_succ HB.out,HA.out]; simp [inOk,hl]
       have HF2:Hid (pos+1=0∨lcOk (l.getD 0 0)=true):=by
        show _∨_
        right
        rcases HF.out with h | h
        ·subst h; rw [List.getD,HB.out]; exact hl
        ·exact h
       clear hl
       go_wp2_with fail
       refine (letter_eq _ HL _).mono ?_
       rintro e w' ⟨rfl,rfl⟩
       go_wp2_with fail
       go_roundw
       case rel => exact⟨pos+1,by omega,HI2,HN2.out,HF2,HA2⟩
       case measure => rw [hp2.out,hpi.out]; omega
      | false =>
       have HL:Hid (runeLc (b.toNat:Int)=false):=by show _=_; rw [runeLc_byte]; exact hl
       by_cases hz:pos=0
       ·have HR:Hid (idIs l=false):=by show _=_; subst hz; exact idIs_first HB.out hl
        subst hz
        clear hl
        go_wp2_with fail
        refine (letter_eq _ HL _).mono ?_
        rintro e w' ⟨rfl,rfl⟩
        go_wp2_with fail
        go_ret
        exact⟨by rw [HR.out]; rfl,HN2.out⟩
       ·have hz':0 < pos:=by omega
        clear hz
        cases hd:dgOk b with
        | true =>
         have HD:Hid (runeIn (b.toNat:Int)=true):=by show _=_; rw [runeIn_byte]; exact hd
         have HA2:Hid ((l.take (pos+1)).all inOk=true):=by show _=_; rw [all_succ HB.out,HA.out]; simp [inOk,hd]
         have HF2:Hid (pos+1=0∨lcOk (l.getD 0 0)=true):=by
          show _∨_
          right
          rcases HF.out with h | h
          ·omega
          ·exact h
         clear hl hd
         go_wp2_with fail
         refine (letter_eq _ HL _).mono ?_
         rintro e w' ⟨rfl,rfl⟩
         go_wp2_with fail
         refine (inner_eq _ HD _).mono ?_
         rintro e w' ⟨rfl,rfl⟩
         go_wp2_with fail
         go_roundw
         case rel => exact⟨pos+1,by omega,HI2,HN2.out,HF2,HA2⟩
         case measure => rw [hp2.out,hpi.out]; omega
        | false =>
         have HD:Hid (runeIn (b.toNat:Int)=false):=by show _=_; rw [runeIn_byte]; exact hd
         have HR:Hid (idIs l=false):=by show _=_; exact idIs_bad HB.out (by simp [inOk,hl,hd])
         clear hl hd
         go_wp2_with fail
         refine (letter_eq _ HL _).mono ?_
         rintro e w' ⟨rfl,rfl⟩
         go_wp2_with fail
         refine (inner_eq _ HD _).mono ?_
         rintro e w' ⟨rfl,rfl⟩
         go_wp2_with fail
         go_ret
         exact⟨by rw [HR.out]; rfl,HN2.out⟩
     ·obtain⟨hh1,_⟩:=decode_high ⟨l.toArray⟩ pos hlt' (by rw [hb]; omega)
      have hnext:=fun ty => Lib.run_next_any_at (P:=Try.prog) wr w.heap.size ⟨l.toArray⟩ pos ty HI.out hlt'
      have HN2:=hZq (Lib.below_iterAt hnx (k:=w.heap.size) (Nat.le_refl _) ⟨l.toArray⟩ (pos+(Utf8.decode ⟨l.toArray⟩ pos).2))
      have HR:Hid (idIs l=false):=by show _=_; exact idIs_high (List.mem_of_getElem? HB.out) (by omega)
      obtain⟨r,hr⟩ : ∃ r,(Utf8.decode ⟨l.toArray⟩ pos).1=r:=⟨_,rfl⟩
      obtain⟨q,hq⟩ : ∃ q,pos+(Utf8.decode ⟨l.toArray⟩ pos).2=q:=⟨_,rfl⟩
      rw [hr,hq] at hnext
      rw [hq] at HN2
      rw [hr] at hh1
      have HL:=hZq (rune_high hh1).1
      have HD:=hZq (rune_high hh1).2
      clear hr hq hb hnx
      go_wp2_with fail
      refine (letter_eq _ HL _).mono ?_
      rintro e w' ⟨rfl,rfl⟩
      by_cases hz:pos=0
      ·subst hz
       go_wp2_with fail
       go_ret
       exact⟨by rw [HR.out]; rfl,HN2.out⟩
      ·have hz':0 < pos:=by omega
       clear hz
       go_wp2_with fail
       refine (inner_eq _ HD _).mono ?_
       rintro e w' ⟨rfl,rfl⟩
       go_wp2_with fail
       go_ret
       exact⟨by rw [HR.out]; rfl,HN2.out⟩
    ·obtain rfl:pos=l.length:=by omega
     have hnext:=fun ty => Lib.run_next_end_at (P:=Try.prog) wr w.heap.size ⟨l.toArray⟩ l.length ty HI.out (by rw [size_bytes]; omega)
     have HR:Hid (idIs l=true):=by
      show _=_
      have ha:=HA.out
      rw [List.take_length] at ha
      refine idIs_mk hpos (by omega) ?_ ha
      rcases HF.out with h | h
      ·omega
      ·exact h
     clear hnx
     go_wp2_with fail
     go_ret
     exact⟨by rw [HR.out]; rfl,HN.out⟩
end
section
open Go.RowKit Go.Lib

def smallR (r:Int):Int:=if 65≤r∧r≤90 then r+32 else r

def FoldAt (l:List UInt8) (pos:Nat) (acc:List UInt8):Prop :=
 (pos≤l.length∧acc=idLow (l.take pos))∨((∃ b ∈ acc,128≤b.toNat)∧∃ b ∈ l,128≤b.toNat)

theorem ownsRowF_later {w w':World} {base e size:Nat} {v:Value} {n:Nat} {xs:List Value} (h:w.ownsRowF base e size v n xs) (hb:Below w.heap.size w w'):w'.ownsRowF base e size v n xs:=by
 refine ⟨h.1,?_⟩
 rcases h.2 with h' | ⟨g,cap,cur,fz,h1,h2,h3,h4⟩
 ·exact .inl h'
 ·exact .inr ⟨g,cap,cur,fz,h1,h2,by rw [hb.block g (Array.getElem?_eq_some_iff.1 h3).1]; exact h3,h4⟩

theorem builderAt_later {T e B b:Nat} {p:Value} {bs:List Value} {w w':World} (h:BuilderAtF T e B b p bs w) (hb:Below w.heap.size w w'):BuilderAtF T e B b p bs w':=by
 obtain⟨h1,v,h2,h3,h4⟩:=h
 exact⟨h1,v,by rw [hb.block b (Array.getElem?_eq_some_iff.1 h2).1]; exact h2,ownsRowF_later h3 hb,h4⟩

theorem builder_later {T e B b:Nat} {bs:List Value} {w w':World} (h:IsBuilderF T e B b bs w) (hb:Below w.heap.size w w'):IsBuilderF T e B b bs w' :=
 h.elim (fun x => .inl (builderAt_later x hb)) (fun x => .inr (builderAt_later x hb))

theorem is_eq (l:List UInt8) (hl:l.length≤4294967296) {r:Bool} (h:Hid (idIs l=r)) (w:World) :
  Calls Try.prog 29 #[.string ⟨l.toArray⟩] w fun e w' => e=.returned (.bool r)∧Below w.heap.size w w':=by
 have:=is_any l hl w
 rwa [h.out] at this
end
section
open Go.RowKit

theorem idput_eq (l:List UInt8) (hl:l.length≤4294967296) {t:List UInt8} {r:Bool} (h:Hid (idPut l=(t,r))) (w:World) :
  Calls Try.prog 63 #[.string ⟨l.toArray⟩] w fun e w' => e=.returned (.tuple #[.string ⟨t.toArray⟩,.bool r])∧Below w.heap.size w w':=by
 have e:=h.out
 unfold idPut at e
 clear h
 cases hi:idIs l with
 | false =>
  rw [hi] at e
  simp only [Bool.false_eq_true,if_false,Prod.mk.injEq] at e
  obtain⟨rfl,rfl⟩:=e
  have HI:=hZq hi
  clear hi
  go_enter Try.func63,Try.ntmps63
  go_wp2_with fail
  refine (is_eq l hl HI _).mono ?_
  rintro e w1 ⟨rfl,hb1⟩
  go_wp2_with fail
  go_ret2
  exact⟨rfl,hb1⟩
 | true =>
  rw [hi] at e
  simp only [if_true,Prod.mk.injEq] at e
  obtain⟨rfl,rfl⟩:=e
  have HI:=hZq hi
  clear hi
  go_enter Try.func63,Try.ntmps63
  go_wp2_with fail
  refine (is_eq l hl HI _).mono ?_
  rintro e w1 ⟨rfl,hb1⟩
  go_wp2_with fail
  refine (text_any l hl _).mono ?_
  rintro e w2 ⟨rfl,hb2⟩
  go_wp2_with fail
  go_ret2
  exact⟨rfl,below2' hb1 hb2⟩
end
section
open Go.RowKit
end
end Go.Proofs.Ytfocooajnignbaa
