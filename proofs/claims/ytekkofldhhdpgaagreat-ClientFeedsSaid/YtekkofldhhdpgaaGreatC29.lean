/-
 TEXTS OF THE PROOF, one behind the other: FraLive, FraW.
-/
import Derived.Test.YtekkofldhhdpgaaGreatC20
import Derived.Test.YtekkofldhhdpgaaGreatC28

section

namespace Go.Proofs.YtekkofldhhdpgaaGreat
open Go.RowKit

theorem lf1:frMay ⟨1,300,true,[97,110,110],⟨4,0,5,[]⟩,0,[]⟩=true:=by decide +kernel
theorem lf2:frPlain ⟨1,300,true,[97,110,110],⟨4,0,5,[]⟩,0,[]⟩=[1,172,2,1,3,97,110,110,4,128,5,0]:=by decide +kernel
theorem lf3:frEnc ⟨1,300,true,[97,110,110],⟨4,0,5,[]⟩,0,[]⟩=(cseal [1,172,2,1,3,97,110,110,4,128,5,0],0):=by unfold frEnc; rw [if_pos lf1,lf2]
theorem lf4:frDec (cseal [1,172,2,1,3,97,110,110,4,128,5,0])=(⟨1,300,true,[97,110,110],⟨4,0,5,[]⟩,0,[]⟩,0):=(frDec_plain lf1 (by decide) (by rw [lf2])).1
theorem lf5:frMay ⟨4,5,false,[],⟨0,0,0,[]⟩,0,[]⟩=true:=by decide +kernel
theorem lf6:frPlain ⟨4,5,false,[],⟨0,0,0,[]⟩,0,[]⟩=[4,5]:=by decide +kernel
theorem lf7:frEnc ⟨4,5,false,[],⟨0,0,0,[]⟩,0,[]⟩=(cseal [4,5],0):=by unfold frEnc; rw [if_pos lf5,lf6]
theorem lf8:frMay ⟨4,0,true,[],⟨0,0,0,[]⟩,0,[]⟩=false:=by decide +kernel
theorem lf9:frEnc ⟨4,0,true,[],⟨0,0,0,[]⟩,0,[]⟩=([],1):=by unfold frEnc; rw [if_neg (by rw [lf8]; decide)]
theorem lf10:frDec [97,98,99]=(⟨0,0,false,[],⟨0,0,0,[]⟩,0,[]⟩,2):=by
 have h:copen [97,98,99]=([],2):=by decide +kernel
 unfold frDec; rw [h,if_pos (by decide)]; rfl
theorem lf11:frDec [97,98,99,100,101,102]=(⟨0,0,false,[],⟨0,0,0,[]⟩,0,[]⟩,4):=by
 have h:copen [97,98,99,100,101,102]=([],4):=by decide +kernel
 unfold frDec; rw [h,if_pos (by decide)]; rfl
theorem lf12:frDec (cseal [5,0])=(⟨0,0,false,[],⟨0,0,0,[]⟩,0,[]⟩,3):=by
 unfold frDec; rw [copen_seal,if_neg (by decide)]; rfl
theorem lf13:frMay ⟨0,0,false,[],⟨0,0,0,[]⟩,0,[]⟩=false:=frMay_zero
theorem lf14:frSame ⟨1,300,true,[97,110,110],⟨4,0,5,[]⟩,0,[]⟩ ⟨1,300,true,[97,110,110],⟨4,0,5,[]⟩,0,[]⟩=true:=frSame_iff.2 rfl
theorem lf15:frSame ⟨1,300,true,[97,110,110],⟨4,0,5,[]⟩,0,[]⟩ ⟨0,0,false,[],⟨0,0,0,[]⟩,0,[]⟩=false:=by decide +kernel

theorem seal_lenL (l:List UInt8):(cseal l).length=l.length+4:=by
 unfold cseal
 rw [List.length_append]
 rfl

end Go.Proofs.YtekkofldhhdpgaaGreat

end

section

namespace Go.Proofs.YtekkofldhhdpgaaGreat
open Go.RowKit

theorem fewF_get {f:Frm} (h:fewF f=true):Short f.t∧f.c.length≤4294967296∧f.v.st.length≤4294967296:=by
 unfold fewF at h
 simp only [Bool.and_eq_true,decide_eq_true_eq] at h
 exact⟨fewT_short h.1,by omega,by omega⟩

end Go.Proofs.YtekkofldhhdpgaaGreat

end
