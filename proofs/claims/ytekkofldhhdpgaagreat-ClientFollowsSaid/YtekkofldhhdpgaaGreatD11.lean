/-
 TEXTS OF THE PROOF, one behind the other: CrcPure, FraPure, FraRead, FraSize, FraP, CliPure.
-/
import Derived.Test.YtekkofldhhdpgaaGreatD01

section

namespace Go.Proofs.YtekkofldhhdpgaaGreat

def c1 (x:Nat):Nat:=if x % 2=1 then x / 2 ^^^ 3988292384 else x / 2

def cN:Nat→Nat→Nat
 | 0,x => x
 | k+1,x => cN k (c1 x)

def cstep (c b:Nat):Nat:=cN 8 (c ^^^ b)

def cfold (c:Nat) (l:List UInt8):Nat:=l.foldl (fun c b => cstep c b.toNat) c

def csum (l:List UInt8):Nat:=cfold 4294967295 l ^^^ 4294967295

def low4 (n:Nat):List UInt8:=[u8of (n % 256),u8of (n / 256 % 256),u8of (n / 65536 % 256),u8of (n / 16777216 % 256)]

def cseal (l:List UInt8):List UInt8:=l ++ low4 (csum l)

def copen (t:List UInt8):List UInt8 × Nat :=
 if t.length < 4 then ([],2) else if t.drop (t.length - 4)=low4 (csum (t.take (t.length - 4))) then (t.take (t.length - 4),0) else ([],4)

theorem c1_lt {x:Nat} (h:x < 4294967296):c1 x < 4294967296:=by
 unfold c1
 split
 ·exact Nat.xor_lt_two_pow (n:=32) (by omega) (by omega)
 ·omega

theorem cN_lt:∀ (k:Nat) {x:Nat},x < 4294967296→cN k x < 4294967296
 | 0,_,h => h
 | k+1,_,h => cN_lt k (c1_lt h)

theorem cstep_lt {c b:Nat} (hc:c < 4294967296) (hb:b < 4294967296):cstep c b < 4294967296:=cN_lt 8 (Nat.xor_lt_two_pow (n:=32) hc hb)

theorem cfold_lt:∀ (l:List UInt8) {c:Nat},c < 4294967296→cfold c l < 4294967296
 | [],_,h => h
 | b :: l,_,h => cfold_lt l (cstep_lt h (by have:=b.toNat_lt; omega))

theorem cfold_append (c:Nat) (a b:List UInt8):cfold c (a ++ b)=cfold (cfold c a) b:=by unfold cfold; exact List.foldl_append

theorem csum_lt (l:List UInt8):csum l < 4294967296:=Nat.xor_lt_two_pow (n:=32) (cfold_lt l (by decide)) (by decide)

def cK:Nat:=cN 32 4294967295

theorem copen_seal (s:List UInt8):copen (cseal s)=(s,0):=by
 have hl:(cseal s).length=s.length+4:=by simp [cseal,low4]
 unfold copen
 rw [if_neg (by omega),hl,Nat.add_sub_cancel]
 have e1:(cseal s).take s.length=s:=by simp [cseal]
 have e2:(cseal s).drop s.length=low4 (csum s):=by simp [cseal]
 rw [e1,e2,if_pos rfl]

theorem copen_ok {t s:List UInt8} (h:copen t=(s,0)):cseal s=t:=by
 unfold copen at h
 split at h
 ·simp at h
 ·split at h
  ·rename_i h4 hd
   simp only [Prod.mk.injEq,and_true] at h
   subst h
   unfold cseal
   rw [← hd,List.take_append_drop]
  ·simp at h

end Go.Proofs.YtekkofldhhdpgaaGreat

end

section

namespace Go.Proofs.YtekkofldhhdpgaaGreat

structure Frm where
 k:Int
 s:Int
 on:Bool
 c:List UInt8
 v:Val
 sum:Nat
 t:List Row

def Frm.zero:Frm:=⟨0,0,false,[],Val.zero,0,[]⟩

def frRest (f:Frm):Bool :=
 if f.k=1 then decide (f.sum=0) && (decide (f.t.length=0) && (idIs f.c && (if f.on=true then vaMay f.v else vSame f.v Val.zero)))
 else if f.k=2 then (!f.on && (f.c == [] && vSame f.v Val.zero)) && decide (f.t.length=0)
 else if f.k=3 then (!f.on && (f.c == [] && vSame f.v Val.zero)) && (decide (f.sum=0) && diMay f.t)
 else (!f.on && (f.c == [] && vSame f.v Val.zero)) && (decide (f.sum=0) && decide (f.t.length=0))

def frMay (f:Frm):Bool:=(decide (1≤f.k) && decide (f.k≤4)) && ((decide (0≤f.s) && decide (f.s≤1099511627776)) && frRest f)

def be8 (n:Nat):List UInt8:=[u8of (n / 72057594037927936 % 256),u8of (n / 281474976710656 % 256),u8of (n / 1099511627776 % 256),u8of (n / 4294967296 % 256),u8of (n / 16777216 % 256),u8of (n / 65536 % 256),u8of (n / 256 % 256),u8of (n % 256)]

def frBody (f:Frm):List UInt8 :=
 if f.k=1 then (if f.on=true then 1 :: ((idPut f.c).1 ++ vaBytes f.v) else 0 :: (idPut f.c).1)
 else if f.k=2 then be8 f.sum
 else if f.k=3 then (diPut f.t).1
 else []

def frPlain (f:Frm):List UInt8:=u8of f.k.toNat :: (vput f.s.toNat ++ frBody f)

def frEnc (f:Frm):List UInt8 × Nat:=if frMay f=true then (cseal (frPlain f),0) else ([],1)

def sum8 (l:List UInt8):Nat:=l.foldl (fun a b => a * 256+b.toNat) 0

def frTakeBody (k : Nat) (s : Nat) (b : List UInt8) : Option Frm :=
  if k = 1 then
    (if b.length = 0 then none
     else if (idTake b 1).2.2 ≠ 0 then none
     else if b.getD 0 0 = 0 then some ⟨1, s, false, (idTake b 1).1, Val.zero, 0, []⟩
     else if (vaTake b (idTake b 1).2.1).2.2 ≠ 0 then none
     else some ⟨1, s, true, (idTake b 1).1, (vaTake b (idTake b 1).2.1).1, 0, []⟩)
  else if k = 2 then (if b.length < 8 then none else some ⟨2, s, false, [], Val.zero, sum8 (b.take 8), []⟩)
  else if k = 3 then (if (diTake b 0).2.2 ≠ 0 then none else some ⟨3, s, false, [], Val.zero, 0, (diTake b 0).1⟩)
  else some ⟨k, s, false, [], Val.zero, 0, []⟩

def frTake (l:List UInt8):Option Frm :=
 match l with
 | [] => none
 | x :: r => if x.toNat < 1∨4 < x.toNat then none else if (vget (x :: r) 1).2.2 ≠ 0 then none else frTakeBody x.toNat (vget (x :: r) 1).1 ((x :: r).drop (vget (x :: r) 1).2.1)

theorem sum8_be8 (n:Nat) (h:n < 18446744073709551616):sum8 (be8 n)=n:=by
 unfold sum8 be8
 simp only [List.foldl_cons,List.foldl_nil]
 rw [u8of_toNat (by omega),u8of_toNat (by omega),u8of_toNat (by omega),u8of_toNat (by omega),u8of_toNat (by omega),u8of_toNat (by omega),u8of_toNat (by omega),u8of_toNat (by omega)]
 omega

structure FrOk (f:Frm):Prop where
 k1:1≤f.k
 k4:f.k≤4
 s0:0≤f.s
 s1:f.s≤1099511627776
 rest:frRest f=true

theorem frMay_iff {f:Frm}:frMay f=true ↔ FrOk f:=by
 unfold frMay
 simp only [Bool.and_eq_true,decide_eq_true_eq]
 exact⟨fun ⟨⟨a,b⟩,⟨c,d⟩,e⟩ => ⟨a,b,c,d,e⟩,fun ⟨a,b,c,d,e⟩ => ⟨⟨a,b⟩,⟨c,d⟩,e⟩⟩

theorem frTakeBody_body {f:Frm} (h:FrOk f) (hs:f.sum < 18446744073709551616):frTakeBody f.k.toNat f.s.toNat (frBody f)=some f:=by
 obtain⟨k,s,on,c,v,sum,t⟩:=f
 obtain⟨h1,h2,h3,h4,h5⟩:=h
 simp only at h1 h2 h3 h4 hs
 obtain⟨s,rfl⟩:=Int.eq_ofNat_of_zero_le h3
 have hk:k=1∨k=2∨k=3∨k=4:=by omega
 unfold frRest at h5
 simp only at h5
 rcases hk with rfl | rfl | rfl | rfl
 ·simp only [if_true,Bool.and_eq_true,decide_eq_true_eq,List.length_eq_zero_iff] at h5
  obtain⟨rfl,rfl,hc,hv⟩:=h5
  have hp:(idPut c).1=vput c.length ++ c:=by unfold idPut; rw [if_pos hc]
  cases on with
  | false =>
   simp only [Bool.false_eq_true,if_false] at hv
   obtain rfl:=vSame_iff.1 hv
   have e:=idTake_at hc [0] []
   simp only [List.append_nil,List.length_singleton,List.cons_append,List.nil_append] at e
   have e':idTake (0 :: (vput c.length ++ c)) 1=(c,1+(vput c.length ++ c).length,0):=e
   unfold frTakeBody frBody
   simp [hp,e']
  | true =>
   simp only [if_true] at hv
   have e:=idTake_at hc [1] (vaBytes v)
   simp only [List.length_singleton,List.cons_append,List.nil_append] at e
   have e':idTake (1 :: ((vput c.length ++ c) ++ vaBytes v)) 1=(c,1+(vput c.length ++ c).length,0):=e
   have g:=vaTake_put hv (1 :: (vput c.length ++ c)) []
   rw [List.append_nil,List.cons_append] at g
   have g':vaTake (1 :: ((vput c.length ++ c) ++ vaBytes v)) ((1+(vput c.length ++ c).length:Nat):Int)=(v,(1 :: (vput c.length ++ c)).length+(vaBytes v).length,0):=by
    rw [← g]
    congr 1
    simp only [List.length_cons]
    omega
   unfold frTakeBody frBody
   simp only [if_true,hp,e',g']
   simp
 ·simp only [show ¬ (2:Int)=1 by omega,if_false,if_true,Bool.and_eq_true,decide_eq_true_eq,List.length_eq_zero_iff,Bool.not_eq_true',beq_iff_eq] at h5
  obtain⟨⟨rfl,rfl,hv⟩,rfl⟩:=h5
  obtain rfl:=vSame_iff.1 hv
  unfold frTakeBody frBody
  simp [be8]
  exact sum8_be8 sum hs
 ·simp only [show ¬ (3:Int)=1 by omega,show ¬ (3:Int)=2 by omega,if_false,if_true,Bool.and_eq_true,decide_eq_true_eq,Bool.not_eq_true',beq_iff_eq] at h5
  obtain⟨⟨rfl,rfl,hv⟩,rfl,ht⟩:=h5
  obtain rfl:=vSame_iff.1 hv
  have e:=diTake_put ht [] []
  simp only [List.nil_append,List.append_nil,List.length_nil] at e
  have e':diTake (diBytes t) 0=(t,0+(diBytes t).length,0):=e
  have hp:(diPut t).1=diBytes t:=by unfold diPut; rw [if_pos ht]
  unfold frTakeBody frBody
  simp [hp,e']
 ·simp only [show ¬ (4:Int)=1 by omega,show ¬ (4:Int)=2 by omega,show ¬ (4:Int)=3 by omega,if_false,Bool.and_eq_true,decide_eq_true_eq,List.length_eq_zero_iff,Bool.not_eq_true',beq_iff_eq] at h5
  obtain⟨⟨rfl,rfl,hv⟩,rfl,rfl⟩:=h5
  obtain rfl:=vSame_iff.1 hv
  unfold frTakeBody frBody
  simp

theorem frTake_plain {f:Frm} (h:frMay f=true) (hs:f.sum < 18446744073709551616):frTake (frPlain f)=some f:=by
 have ho:=frMay_iff.1 h
 have hk1:=ho.k1
 have hk4:=ho.k4
 have hs1:=ho.s1
 have hb:=frTakeBody_body ho hs
 have hx:(u8of f.k.toNat).toNat=f.k.toNat:=u8of_toNat (by omega)
 have hg:=vget_vput f.s.toNat (by omega) [u8of f.k.toNat] (frBody f)
 simp only [List.length_singleton,List.cons_append,List.nil_append] at hg
 have hg':vget (u8of f.k.toNat :: (vput f.s.toNat ++ frBody f)) 1=(f.s.toNat,1+(vput f.s.toNat).length,0):=hg
 unfold frPlain frTake
 simp only [hg',hx]
 rw [if_neg (by omega),if_neg (by simp)]
 have hd:(u8of f.k.toNat :: (vput f.s.toNat ++ frBody f)).drop (1+(vput f.s.toNat).length)=frBody f:=by
  rw [Nat.add_comm,List.drop_succ_cons,List.drop_left' rfl]
 rw [hd,hb]

theorem frPlain_inj {f g:Frm} (hf:frMay f=true) (hg:frMay g=true) (hs:f.sum < 18446744073709551616) (ht:g.sum < 18446744073709551616) (h:frPlain f=frPlain g):f=g:=by
 have a:=frTake_plain hf hs
 rw [h,frTake_plain hg ht] at a
 exact (Option.some.inj a).symm

end Go.Proofs.YtekkofldhhdpgaaGreat

end

section

namespace Go.Proofs.YtekkofldhhdpgaaGreat

def frReadAt (l : List UInt8) (k n a : Nat) : Frm :=
  if k = 1 then
    (if l.length ≤ a then Frm.zero
     else if (idTake l (a + 1)).2.2 ≠ 0 then Frm.zero
     else if l.getD a 0 = 1 then
       (if (vaTake l (idTake l (a + 1)).2.1).2.2 ≠ 0 then Frm.zero else ⟨1, n, true, (idTake l (a + 1)).1, (vaTake l (idTake l (a + 1)).2.1).1, 0, []⟩)
     else ⟨1, n, false, (idTake l (a + 1)).1, Val.zero, 0, []⟩)
  else if k = 2 then ⟨2, n, false, [], Val.zero, sum8 ((l.drop a).take 8), []⟩
  else if k = 3 then (if (diTake l a).2.2 ≠ 0 then Frm.zero else ⟨3, n, false, [], Val.zero, 0, (diTake l a).1⟩)
  else ⟨k, n, false, [], Val.zero, 0, []⟩

def frRead (l:List UInt8):Frm :=
 match l with
 | [] => Frm.zero
 | x :: r => if (vget (x :: r) 1).2.2 ≠ 0∨1099511627776 < (vget (x :: r) 1).1 then Frm.zero else frReadAt (x :: r) x.toNat (vget (x :: r) 1).1 (vget (x :: r) 1).2.1

theorem frMay_zero:frMay Frm.zero=false:=by decide

theorem frReadAt_body {f:Frm} (h:FrOk f) (hs:f.sum < 18446744073709551616) (a:List UInt8):frReadAt (a ++ frBody f) f.k.toNat f.s.toNat a.length=f:=by
 obtain⟨k,s,on,c,v,sum,t⟩:=f
 obtain⟨h1,h2,h3,h4,h5⟩:=h
 simp only at h1 h2 h3 h4 hs
 obtain⟨s,rfl⟩:=Int.eq_ofNat_of_zero_le h3
 have hk:k=1∨k=2∨k=3∨k=4:=by omega
 unfold frRest at h5
 simp only at h5
 rcases hk with rfl | rfl | rfl | rfl
 ·simp only [if_true,Bool.and_eq_true,decide_eq_true_eq,List.length_eq_zero_iff] at h5
  obtain⟨rfl,rfl,hc,hv⟩:=h5
  have hp:(idPut c).1=vput c.length ++ c:=by unfold idPut; rw [if_pos hc]
  cases on with
  | false =>
   simp only [Bool.false_eq_true,if_false] at hv
   obtain rfl:=vSame_iff.1 hv
   have e:=idTake_at hc (a ++ [0]) []
   have e':idTake (a ++ 0 :: (vput c.length ++ c)) ((a.length:Int)+1)=(c,(a ++ [0]).length+(vput c.length ++ c).length,0):=by
    rw [← e]
    congr 1
    ·simp
    ·simp
   unfold frReadAt frBody
   simp [hp,e']
   omega
  | true =>
   simp only [if_true] at hv
   have e:=idTake_at hc (a ++ [1]) (vaBytes v)
   have e':idTake (a ++ 1 :: (vput c.length ++ (c ++ vaBytes v))) ((a.length:Int)+1)=(c,(a ++ [1]).length+(vput c.length ++ c).length,0):=by
    rw [← e]
    congr 1
    ·simp
    ·simp
   have g:=vaTake_put hv (a ++ 1 :: (vput c.length ++ c)) []
   have g':vaTake (a ++ 1 :: (vput c.length ++ (c ++ vaBytes v))) (((a ++ [1]).length+(vput c.length ++ c).length:Nat):Int)=(v,(a ++ 1 :: (vput c.length ++ c)).length+(vaBytes v).length,0):=by
    rw [← g]
    congr 1
    ·simp
    ·simp only [List.length_append,List.length_cons,List.length_nil]
     omega
   unfold frReadAt frBody
   simp only [if_true,hp,List.append_assoc,e',g']
   simp
   omega
 ·simp only [show ¬ (2:Int)=1 by omega,if_false,if_true,Bool.and_eq_true,decide_eq_true_eq,List.length_eq_zero_iff,Bool.not_eq_true',beq_iff_eq] at h5
  obtain⟨⟨rfl,rfl,hv⟩,rfl⟩:=h5
  obtain rfl:=vSame_iff.1 hv
  unfold frReadAt frBody
  simp [be8]
  exact sum8_be8 sum hs
 ·simp only [show ¬ (3:Int)=1 by omega,show ¬ (3:Int)=2 by omega,if_false,if_true,Bool.and_eq_true,decide_eq_true_eq,Bool.not_eq_true',beq_iff_eq] at h5
  obtain⟨⟨rfl,rfl,hv⟩,rfl,ht⟩:=h5
  obtain rfl:=vSame_iff.1 hv
  have e:=diTake_put ht a []
  rw [List.append_nil] at e
  have hp:(diPut t).1=diBytes t:=by unfold diPut; rw [if_pos ht]
  unfold frReadAt frBody
  simp [hp,e]
 ·simp only [show ¬ (4:Int)=1 by omega,show ¬ (4:Int)=2 by omega,show ¬ (4:Int)=3 by omega,if_false,Bool.and_eq_true,decide_eq_true_eq,List.length_eq_zero_iff,Bool.not_eq_true',beq_iff_eq] at h5
  obtain⟨⟨rfl,rfl,hv⟩,rfl,rfl⟩:=h5
  obtain rfl:=vSame_iff.1 hv
  unfold frReadAt frBody
  simp

theorem frRead_plain {f:Frm} (h:frMay f=true) (hs:f.sum < 18446744073709551616):frRead (frPlain f)=f:=by
 have ho:=frMay_iff.1 h
 have hk1:=ho.k1
 have hk4:=ho.k4
 have hs1:=ho.s1
 have hb:=frReadAt_body ho hs (u8of f.k.toNat :: vput f.s.toNat)
 have hx:(u8of f.k.toNat).toNat=f.k.toNat:=u8of_toNat (by omega)
 have hg:=vget_vput f.s.toNat (by omega) [u8of f.k.toNat] (frBody f)
 simp only [List.length_singleton,List.cons_append,List.nil_append] at hg
 have hg':vget (u8of f.k.toNat :: (vput f.s.toNat ++ frBody f)) 1=(f.s.toNat,1+(vput f.s.toNat).length,0):=hg
 unfold frPlain frRead
 simp only [hg',hx]
 rw [if_neg (by omega)]
 simp only [List.length_cons,List.cons_append] at hb
 rw [Nat.add_comm 1]
 exact hb

def frDec (s:List UInt8):Frm × Nat :=
 if (copen s).2 ≠ 0 then (Frm.zero,(copen s).2)
 else match frTake (copen s).1 with
  | some f => if frMay f=true∧frPlain f=(copen s).1 then (f,0) else (Frm.zero,3)
  | none => (Frm.zero,3)

def frDoc (s:List UInt8):Frm × Nat :=
 if (copen s).2 ≠ 0 then (Frm.zero,(copen s).2)
 else if frMay (frRead (copen s).1)=true∧cseal (frPlain (frRead (copen s).1))=s then (frRead (copen s).1,0) else (Frm.zero,3)

theorem frDec_plain {s:List UInt8} {f:Frm} (hf:frMay f=true) (hs:f.sum < 18446744073709551616) (h:cseal (frPlain f)=s):frDec s=(f,0)∧frDoc s=(f,0):=by
 subst h
 unfold frDec frDoc
 rw [copen_seal]
 simp only [frTake_plain hf hs,frRead_plain hf hs,hf]
 simp

theorem sum8_lt:∀ (l:List UInt8) (a:Nat),l.foldl (fun a b => a * 256+b.toNat) a < (a+1) * 256 ^ l.length
 | [],a => by simp
 | b :: r,a => by
  have h:=sum8_lt r (a * 256+b.toNat)
  have hb:b.toNat < 256:=b.toNat_lt
  rw [List.foldl_cons,List.length_cons,Nat.pow_succ]
  refine Nat.lt_of_lt_of_le h ?_
  rw [Nat.mul_comm (256 ^ r.length) 256,← Nat.mul_assoc]
  exact Nat.mul_le_mul_right _ (by omega)

theorem sum8_take (l:List UInt8):sum8 (l.take 8) < 18446744073709551616:=by
 have h:=sum8_lt (l.take 8) 0
 have h2:256 ^ (l.take 8).length≤256 ^ 8:=Nat.pow_le_pow_right (by omega) (by rw [List.length_take]; omega)
 unfold sum8
 omega

theorem frTake_sum {l:List UInt8} {f:Frm} (h:frTake l=some f):f.sum < 18446744073709551616:=by
 unfold frTake at h
 split at h
 ·cases h
 ·split at h
  ·cases h
  ·split at h
   ·cases h
   ·unfold frTakeBody at h
    repeat' split at h
    all_goals (first | (cases h; done) | (obtain rfl:=Option.some.inj h; first | exact sum8_take _ | (simp only; omega)))

theorem frRead_sum (l:List UInt8):(frRead l).sum < 18446744073709551616:=by
 unfold frRead
 split
 ·simp [Frm.zero]
 ·split
  ·simp [Frm.zero]
  ·unfold frReadAt
   repeat' split
   all_goals (first | exact sum8_take _ | simp [Frm.zero])

theorem frDec_doc (s:List UInt8):frDec s=frDoc s:=by
 by_cases he:(copen s).2=0
 ·have hc:copen s=((copen s).1,0):=by rw [← he]
  have hs:=copen_ok hc
  by_cases hd:∃ f,frTake (copen s).1=some f∧frMay f=true∧frPlain f=(copen s).1
  ·obtain⟨f,h1,h2,h3⟩:=hd
   have:=frDec_plain h2 (frTake_sum h1) (s:=s) (by rw [h3]; exact hs)
   rw [this.1,this.2]
  ·have e1:frDec s=(Frm.zero,3):=by
    unfold frDec
    rw [if_neg (by simp [he])]
    split
    ·rename_i f hf
     rw [if_neg (fun h => hd ⟨f,hf,h.1,h.2⟩)]
    ·rfl
   by_cases h:frMay (frRead (copen s).1)=true∧cseal (frPlain (frRead (copen s).1))=s
   ·have:=(frDec_plain h.1 (frRead_sum _) h.2).1
    rw [e1] at this
    simp at this
   ·rw [e1]
    unfold frDoc
    rw [if_neg (by simp [he]),if_neg h]
 ·unfold frDec frDoc
  rw [if_pos he,if_pos he]

end Go.Proofs.YtekkofldhhdpgaaGreat

end

section

namespace Go.Proofs.YtekkofldhhdpgaaGreat

theorem idPut_lenS (c:List UInt8):(idPut c).1.length≤26:=by
 unfold idPut
 by_cases h:idIs c=true
 ·rw [if_pos h]
  have:=(idIs_parts h).2.1
  have:=vput_len_le c.length
  simp only [List.length_append]
  omega
 ·rw [if_neg h]
  simp

theorem frBody_len {f:Frm} (h:FrOk f):(frBody f).length≤1985:=by
 have hr:=h.rest
 unfold frRest at hr
 unfold frBody
 by_cases h1:f.k=1
 ·rw [if_pos h1] at hr ⊢
  simp only [Bool.and_eq_true] at hr
  have hi:=idPut_lenS f.c
  cases ho:f.on with
  | false => simp; omega
  | true =>
   rw [ho] at hr
   simp only [if_true] at hr
   have:=vaBytes_len hr.2.2.2
   have:=(vaMay_parts hr.2.2.2).2.2.2.2.2.2
   have:=vput_len_le f.v.si.toNat
   simp
   omega
 ·rw [if_neg h1]
  by_cases h2:f.k=2
  ·rw [if_pos h2]; simp [be8]
  ·rw [if_neg h2]
   by_cases h3:f.k=3
   ·rw [if_pos h3]; exact diPut_len f.t
   ·rw [if_neg h3]; simp

theorem frPlain_len {f:Frm} (h:frMay f=true):2≤(frPlain f).length∧(frPlain f).length≤1996:=by
 have hb:=frBody_len (frMay_iff.1 h)
 have h1:=vput_len_le f.s.toNat
 have h2:=vput_len_pos f.s.toNat
 unfold frPlain
 simp only [List.length_cons,List.length_append]
 omega

theorem may_less {t:List Row} (h:diMay t=true):diMay (t.take (t.length - 1))=true:=by
 obtain⟨h1,h2,h3⟩:=diMay_iff.1 h
 refine diMay_iff.2 ⟨by rw [List.length_take]; omega,fun r hr => h2 r (List.mem_of_mem_take hr),?_⟩
 exact List.Pairwise.sublist (List.take_sublist _ _) h3

theorem bytes_less {t:List Row} (h:diMay t=true) (hn:0 < t.length):(diBytes (t.take (t.length - 1))).length < (diBytes t).length:=by
 obtain⟨h1,_,_⟩:=diMay_iff.1 h
 have e:rowsBytes t=rowsBytes (t.take (t.length - 1)) ++ rowBytes (t.getD (t.length - 1) Row.zero):=by
  have:=rowsBytes_succ (t:=t) (k:=t.length - 1) (by omega)
  rw [show t.length - 1+1=t.length by omega,List.take_length] at this
  exact this
 have hp:=vput_len_pos (t.getD (t.length - 1) Row.zero).c.length
 unfold diBytes
 rw [e,List.length_append,List.length_append,List.length_append,vput_small_len (by rw [List.length_take]; omega),vput_small_len (by omega)]
 unfold rowBytes
 simp only [List.length_append]
 omega

end Go.Proofs.YtekkofldhhdpgaaGreat

end

section

namespace Go.Proofs.YtekkofldhhdpgaaGreat

theorem enc_mayP {f:Frm} (h:frMay f=true):frEnc f=(cseal (frPlain f),0):=by unfold frEnc; rw [if_pos h]
theorem enc_notP {f:Frm} (h:frMay f=false):frEnc f=([],1):=by unfold frEnc; rw [if_neg (by rw [h]; decide)]

theorem seal_lenP (l:List UInt8):(cseal l).length=l.length+4:=by simp [cseal,low4]

theorem enc_lenP {f:Frm} (h:frMay f=true):6≤(cseal (frPlain f)).length∧(cseal (frPlain f)).length≤2000:=by
 have:=frPlain_len h
 rw [seal_lenP]
 omega

theorem may3_iff {q sum:Nat} {i:Int} {on:Bool} {c:List UInt8} {v:Val} {t:List Row} (_:q=0) :
  frMay ⟨3,i,on,c,v,sum,t⟩=true ↔ ((decide (0≤i) && decide (i≤1099511627776))=true∧(!on && (c == [] && vSame v Val.zero))=true∧decide (sum=0)=true)∧diMay t=true:=by
 unfold frMay frRest
 simp only [show ¬ (3:Int)=1 by omega,show ¬ (3:Int)=2 by omega,if_false,if_true,Bool.and_eq_true]
 constructor
 ·rintro ⟨-,h1,h2,h3,h4⟩
  exact⟨⟨h1,h2,h3⟩,h4⟩
 ·rintro ⟨⟨h1,h2,h3⟩,h4⟩
  exact⟨⟨rfl,rfl⟩,h1,h2,h3,h4⟩

theorem less_may {i:Int} {on:Bool} {c:List UInt8} {v:Val} {sum n:Nat} {t:List Row} (h:frMay ⟨3,i,on,c,v,sum,t⟩=true) (hn:t.length=n+1) :
  frMay ⟨3,i,on,c,v,sum,t.take n⟩=true∧(cseal (frPlain ⟨3,i,on,c,v,sum,t.take n⟩)).length < (cseal (frPlain ⟨3,i,on,c,v,sum,t⟩)).length:=by
 obtain⟨h1,h2⟩:=(may3_iff (q:=0) rfl).1 h
 have h3:=may_less h2
 have h4:=bytes_less h2 (by omega)
 rw [hn,Nat.add_sub_cancel] at h3 h4
 refine ⟨(may3_iff (q:=0) rfl).2 ⟨h1,h3⟩,?_⟩
 rw [seal_lenP,seal_lenP]
 unfold frPlain frBody diPut
 simp only [show ¬ (3:Int)=1 by omega,show ¬ (3:Int)=2 by omega,if_false,if_true,h2,h3,List.length_cons,List.length_append]
 omega

end Go.Proofs.YtekkofldhhdpgaaGreat

end

section

namespace Go.Proofs.YtekkofldhhdpgaaGreat

structure Cli where
 t:List Row
 n:Int
 o:Bool

def clMay (c:Cli):Bool:=(decide (0≤c.n) && decide (c.n≤1099511627777)) && diMay c.t

def clDo (c:Cli) (f:Frm):Cli :=
 if f.k=3 then ⟨f.t,f.s+1,false⟩
 else if (c.o || decide (c.n < f.s))=true then ⟨c.t,f.s+1,true⟩
 else if f.k=2 then ⟨c.t,f.s+1,!decide (diSum c.t=f.sum)⟩
 else if diMay (diSet c.t ⟨f.c,f.on,f.v⟩)=true then ⟨diSet c.t ⟨f.c,f.on,f.v⟩,f.s+1,false⟩
 else ⟨c.t,f.s+1,true⟩

def clTakes (c:Cli) (f:Frm):Bool:=(frMay f && !decide (f.k=4)) && (clMay c && decide (c.n≤f.s))

def clFeed (c:Cli) (f:Frm):Cli:=if clTakes c f=true then clDo c f else c

def clSame (a b:Cli):Bool:=decide (a.n=b.n) && ((a.o == b.o) && tSame a.t b.t)

def clReq (c:Cli):Frm:=⟨4,if c.n≤1099511627776 then c.n else 1099511627776,false,[],Val.zero,0,[]⟩

def clAsk (c:Cli):List UInt8 × Bool:=if (c.o && clMay c)=true then (cseal (frPlain (clReq c)),true) else ([],false)

def clRead (c:Cli) (s:List UInt8):Cli × Nat:=if (frDec s).2=0 then (clFeed c (frDec s).1,0) else (c,(frDec s).2)

theorem clMay_parts {c:Cli} (h:clMay c=true):0≤c.n∧c.n≤1099511627777∧diMay c.t=true:=by
 unfold clMay at h
 simp only [Bool.and_eq_true,decide_eq_true_eq] at h
 exact⟨h.1.1,h.1.2,h.2⟩

theorem clMay_of {c:Cli} (h0:0≤c.n) (h1:c.n≤1099511627777) (h2:diMay c.t=true):clMay c=true:=by
 unfold clMay
 simp [h0,h1,h2]

theorem clReq_may {c:Cli} (h:clMay c=true):frMay (clReq c)=true:=by
 obtain⟨h0,h1,_⟩:=clMay_parts h
 refine frMay_iff.2 ⟨(by show (1:Int)≤4; decide),(by show (4:Int)≤4; decide),?_,?_,?_⟩
 ·show 0≤(if c.n≤1099511627776 then c.n else 1099511627776)
  split <;> omega
 ·show (if c.n≤1099511627776 then c.n else 1099511627776)≤1099511627776
  split <;> omega
 ·unfold frRest clReq
  simp [vSame_self]

theorem clTakes_parts {c:Cli} {f:Frm} (h:clTakes c f=true):frMay f=true∧¬ f.k=4∧clMay c=true∧c.n≤f.s:=by
 unfold clTakes at h
 simp only [Bool.and_eq_true,decide_eq_true_eq,Bool.not_eq_true',decide_eq_false_iff_not] at h
 exact⟨h.1.1,h.1.2,h.2.1,h.2.2⟩

theorem clTakes_of {c:Cli} {f:Frm} (h1:frMay f=true) (h2:¬ f.k=4) (h3:clMay c=true) (h4:c.n≤f.s):clTakes c f=true:=by
 unfold clTakes
 simp [h1,h2,h3,h4]

theorem clDo_n (c:Cli) (f:Frm):(clDo c f).n=f.s+1:=by
 unfold clDo
 split
 ·rfl
 ·split
  ·rfl
  ·split
   ·rfl
   ·split <;> rfl

theorem frTable_may {f:Frm} (h:frMay f=true) (hk:f.k=3):diMay f.t=true:=by
 have:=(frMay_iff.1 h).rest
 unfold frRest at this
 rw [if_neg (by omega),if_neg (by omega),if_pos hk] at this
 simp only [Bool.and_eq_true] at this
 exact this.2.2

theorem clDo_may {c:Cli} {f:Frm} (hf:frMay f=true) (hc:clMay c=true):clMay (clDo c f)=true:=by
 have ho:=frMay_iff.1 hf
 obtain⟨_,_,ht⟩:=clMay_parts hc
 have hn:=clDo_n c f
 refine clMay_of (by have:=ho.s0; omega) (by have:=ho.s1; omega) ?_
 unfold clDo
 split
 ·rename_i h; exact frTable_may hf h
 ·split
  ·exact ht
  ·split
   ·exact ht
   ·split
    ·assumption
    ·exact ht

theorem clFeed_may {c:Cli} (f:Frm) (hc:clMay c=true):clMay (clFeed c f)=true:=by
 unfold clFeed
 split
 ·rename_i h; exact clDo_may (clTakes_parts h).1 hc
 ·exact hc

def clPast (n:Int) (f:Frm):Prop:=frMay f=true→¬ f.k=4→f.s < n

def Cli.new:Cli:=⟨[],0,false⟩

theorem clRead_err {c:Cli} {s:List UInt8} {e:Nat} {f:Frm} (h:frDec s=(f,e)) (he:e ≠ 0):clRead c s=(c,e):=by
 unfold clRead
 rw [h,if_neg he]

theorem clRead_ok {c:Cli} {s:List UInt8} {f:Frm} (h:frDec s=(f,0)):clRead c s=(clFeed c f,0):=by
 unfold clRead
 rw [h,if_pos rfl]

def GapsAt (c:Cli) (out:Bool) (next:Int) (t:List Row):Prop:=clMay c=true∧c.o=out∧c.n=next∧diMay t=true∧(out=false→c.t=t)

end Go.Proofs.YtekkofldhhdpgaaGreat

end
