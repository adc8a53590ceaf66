/-
 TEXTS OF THE PROOF, one behind the other: FraRdec, CliRread, FraRfew, CliDoc.
-/
import Derived.Test.YtekkofldhhdpgaaGreatC27
import Derived.Test.YtekkofldhhdpgaaGreatC25
import Derived.Test.YtekkofldhhdpgaaGreatC21
import Derived.Test.YtekkofldhhdpgaaGreatC26
import Derived.Test.YtekkofldhhdpgaaGreatC10

set_option maxHeartbeats 12800000
set_option maxRecDepth 100000

section

namespace Go.Proofs.YtekkofldhhdpgaaGreat
open Go.RowKit

theorem ropen_eqF (l:List UInt8) (hl:l.length≤4294967296) {t:List UInt8} {er:Nat} (h:Hid (copen l=(t,er))) (w:World) :
  Calls Tryz.prog 104 #[.string ⟨l.toArray⟩] w fun e w' => e=.returned (.tuple #[.string ⟨t.toArray⟩,.int .i64 er])∧Below w.heap.size w w':=by
 have:=ropen_any l hl w
 rw [h.out] at this
 exact this

theorem rfrdec_err (s:List UInt8) (hl:s.length≤4294967296) {t:List UInt8} {er:Nat} (HT:Hid (copen s=(t,er))) (he:er ≠ 0) (w:World) :
  Calls Tryz.prog 64 #[.string ⟨s.toArray⟩] w fun e w' => ∃ v,e=.returned (.tuple #[.agg #[.int .i64 0,.int .i64 0,.bool false,.string ⟨#[]⟩,.int .i64 0,.int .i64 0,.int .i64 0,.string ⟨#[]⟩,.int .u64 0,v],.int .i64 er])∧OwnR w' w.heap.size v []∧Below w.heap.size w w':=by
 have t1:((er:Int) != 0)=true:=by simp; omega
 clear he
 have b0:=bl_newZ w (.cells #[.int .i64 0,.int .i64 0,.bool false,.string ⟨#[]⟩,.int .i64 0,.int .i64 0,.int .i64 0,.string ⟨#[]⟩,.int .u64 0,.slice none 0 0] 29)
 have HB:=hZq b0
 have R:=newQ w (.cells #[.int .i64 0,.int .i64 0,.bool false,.string ⟨#[]⟩,.int .i64 0,.int .i64 0,.int .i64 0,.string ⟨#[]⟩,.int .u64 0,.slice none 0 0] 29)
 replace R:=hZq R
 clear b0
 go_enter Tryz.func64,Tryz.ntmps64
 go_wp2_with fail
 refine (ropen_eqF s hl HT _).mono ?_
 rintro e w2 ⟨rfl,b2⟩
 replace R:=hZq (upQ R.out b2)
 replace HB:=hZq (below2Z HB.out b2)
 clear b2
 obtain⟨⟨Rc0,Rc1,Rc2,Rc3,Rc4,Rc5,Rc6,Rc7,Rc8,Rc9⟩,⟨Rf0,Rf1,Rf2,Rf3,Rf4,Rf5,Rf6,Rf7,Rf8,Rf9⟩⟩:=blk10 R.out
 go_wp2_with fail
 refine bodyPost_ret (v:=.tuple #[.agg #[.int .i64 0,.int .i64 0,.bool false,.string ⟨#[]⟩,.int .i64 0,.int .i64 0,.int .i64 0,.string ⟨#[]⟩,.int .u64 0,.slice none 0 0],.int .i64 er]) (by simp [results,Tryz.results64,go_sem,Rc0,Rc1,Rc2,Rc3,Rc4,Rc5,Rc6,Rc7,Rc8,Rc9]) rfl ⟨_,rfl,ownR_nil _ _,?_⟩
 exact ((((((((((HB.out.setCell (Nat.le_refl _) _).setCell (Nat.le_refl _) _).setCell (Nat.le_refl _) _).setCell (Nat.le_refl _) _).setCell (Nat.le_refl _) _).setCell (Nat.le_refl _) _).setCell (Nat.le_refl _) _).setCell (Nat.le_refl _) _).setCell (Nat.le_refl _) _).setCell (Nat.le_refl _) _)

theorem rfrdec_no (s:List UInt8) (hl:s.length≤4294967296) {t:List UInt8} (HT:Hid (copen s=(t,0))) (htl:t.length≤4294967296) {k q sh pr si:Int} {on:Bool} {c st:List UInt8} {sum:Nat} {tt:List Row} (HE:Hid (frRead t=⟨k,q,on,c,⟨sh,pr,si,st⟩,sum,tt⟩)) (HSH:Hid (Short tt)) (hc:c.length≤4294967296) (hst:st.length≤4294967296) (hsum:sum < 18446744073709551616) (HC:Hid (frEnc ⟨k,q,on,c,⟨sh,pr,si,st⟩,sum,tt⟩=([],1))) (w:World) :
  Calls Tryz.prog 64 #[.string ⟨s.toArray⟩] w fun e w' => ∃ v,e=.returned (.tuple #[.agg #[.int .i64 0,.int .i64 0,.bool false,.string ⟨#[]⟩,.int .i64 0,.int .i64 0,.int .i64 0,.string ⟨#[]⟩,.int .u64 0,v],.int .i64 3])∧OwnR w' w.heap.size v []∧Below w.heap.size w w':=by
 have b0:=bl_newZ w (.cells #[.int .i64 0,.int .i64 0,.bool false,.string ⟨#[]⟩,.int .i64 0,.int .i64 0,.int .i64 0,.string ⟨#[]⟩,.int .u64 0,.slice none 0 0] 29)
 have HB:=hZq b0
 have R:=newQ w (.cells #[.int .i64 0,.int .i64 0,.bool false,.string ⟨#[]⟩,.int .i64 0,.int .i64 0,.int .i64 0,.string ⟨#[]⟩,.int .u64 0,.slice none 0 0] 29)
 replace R:=hZq R
 clear b0
 go_enter Tryz.func64,Tryz.ntmps64
 go_wp2_with fail
 refine (ropen_eqF s hl HT _).mono ?_
 rintro e w2 ⟨rfl,b2⟩
 replace R:=hZq (upQ R.out b2)
 replace HB:=hZq (below2Z HB.out b2)
 clear b2
 go_wp2_with fail
 have hRl:=(Array.getElem?_eq_some_iff.1 R.out).1
 refine (frread_any t htl HE _).mono ?_
 rintro e w3 ⟨v,rfl,hov,b3⟩
 replace R:=hZq (upQ R.out b3)
 replace HB:=hZq (below2Z HB.out b3)
 obtain⟨va,vc,rfl,-⟩:=Tab.open' (OwnR.tab hov)
 have V:=hZq (OwnR.mono hov (Nat.succ_le_of_lt hRl))
 clear hov hRl
 clear b3
 go_wp2_with fail
 have b4:=bl_newZ w3 (.cells #[.int .i64 k,.int .i64 q,.bool on,.string ⟨c.toArray⟩,.int .i64 sh,.int .i64 pr,.int .i64 si,.string ⟨st.toArray⟩,.int .u64 sum,.slice va tt.length vc] 29)
 have E:=newQ w3 (.cells #[.int .i64 k,.int .i64 q,.bool on,.string ⟨c.toArray⟩,.int .i64 sh,.int .i64 pr,.int .i64 si,.string ⟨st.toArray⟩,.int .u64 sum,.slice va tt.length vc] 29)
 have hE:w.heap.size≤w3.heap.size:=HB.out.size
 replace R:=hZq (upQ R.out b4)
 replace V:=hZq (OwnR.later V.out b4)
 replace HB:=hZq (below2Z HB.out b4)
 clear b4
 replace E:=hZq E
 generalize w3.alloc (.cells #[.int .i64 k,.int .i64 q,.bool on,.string ⟨c.toArray⟩,.int .i64 sh,.int .i64 pr,.int .i64 si,.string ⟨st.toArray⟩,.int .u64 sum,.slice va tt.length vc] 29)=w5 at R E V HB ⊢
 generalize w3.heap.size=BE at E hE ⊢
 obtain⟨⟨Ec0,Ec1,Ec2,Ec3,Ec4,Ec5,Ec6,Ec7,Ec8,Ec9⟩,⟨Ef0,Ef1,Ef2,Ef3,Ef4,Ef5,Ef6,Ef7,Ef8,Ef9⟩⟩:=blk10 E.out
 go_wp2_with fail
 clear Ec0 Ec1 Ec2 Ec3 Ec4 Ec5 Ec6 Ec7 Ec8 Ec9 Ef0 Ef1 Ef2 Ef3 Ef4 Ef5 Ef6 Ef7 Ef8 Ef9
 refine (rfrenc_any (OwnR.tab V.out) HSH.out hc hst hsum HC).mono ?_
 rintro e w6 ⟨rfl,b6⟩
 replace R:=hZq (upQ R.out b6)
 replace E:=hZq (upQ E.out b6)
 replace V:=hZq (OwnR.later V.out b6)
 replace HB:=hZq (below2Z HB.out b6)
 clear b6
 obtain⟨⟨Rc0,Rc1,Rc2,Rc3,Rc4,Rc5,Rc6,Rc7,Rc8,Rc9⟩,⟨Rf0,Rf1,Rf2,Rf3,Rf4,Rf5,Rf6,Rf7,Rf8,Rf9⟩⟩:=blk10 R.out
 go_wp2_with fail
 refine bodyPost_ret (v:=.tuple #[.agg #[.int .i64 0,.int .i64 0,.bool false,.string ⟨#[]⟩,.int .i64 0,.int .i64 0,.int .i64 0,.string ⟨#[]⟩,.int .u64 0,.slice none 0 0],.int .i64 3]) (by simp [results,Tryz.results64,go_sem,Rc0,Rc1,Rc2,Rc3,Rc4,Rc5,Rc6,Rc7,Rc8,Rc9]) rfl ⟨_,rfl,ownR_nil _ _,?_⟩
 exact ((((((((((HB.out.setCell (Nat.le_refl _) _).setCell (Nat.le_refl _) _).setCell (Nat.le_refl _) _).setCell (Nat.le_refl _) _).setCell (Nat.le_refl _) _).setCell (Nat.le_refl _) _).setCell (Nat.le_refl _) _).setCell (Nat.le_refl _) _).setCell (Nat.le_refl _) _).setCell (Nat.le_refl _) _)

theorem rfrdec_dif (s:List UInt8) (hl:s.length≤4294967296) {t:List UInt8} (HT:Hid (copen s=(t,0))) (htl:t.length≤4294967296) {k q sh pr si:Int} {on:Bool} {c st:List UInt8} {sum:Nat} {tt:List Row} (HE:Hid (frRead t=⟨k,q,on,c,⟨sh,pr,si,st⟩,sum,tt⟩)) (HSH:Hid (Short tt)) (hc:c.length≤4294967296) (hst:st.length≤4294967296) (hsum:sum < 18446744073709551616) {p:List UInt8} (HC:Hid (frEnc ⟨k,q,on,c,⟨sh,pr,si,st⟩,sum,tt⟩=(p,0))) (T1:Hid ((p == s)=false)) (w:World) :
  Calls Tryz.prog 64 #[.string ⟨s.toArray⟩] w fun e w' => ∃ v,e=.returned (.tuple #[.agg #[.int .i64 0,.int .i64 0,.bool false,.string ⟨#[]⟩,.int .i64 0,.int .i64 0,.int .i64 0,.string ⟨#[]⟩,.int .u64 0,v],.int .i64 3])∧OwnR w' w.heap.size v []∧Below w.heap.size w w':=by
 have b0:=bl_newZ w (.cells #[.int .i64 0,.int .i64 0,.bool false,.string ⟨#[]⟩,.int .i64 0,.int .i64 0,.int .i64 0,.string ⟨#[]⟩,.int .u64 0,.slice none 0 0] 29)
 have HB:=hZq b0
 have R:=newQ w (.cells #[.int .i64 0,.int .i64 0,.bool false,.string ⟨#[]⟩,.int .i64 0,.int .i64 0,.int .i64 0,.string ⟨#[]⟩,.int .u64 0,.slice none 0 0] 29)
 replace R:=hZq R
 clear b0
 go_enter Tryz.func64,Tryz.ntmps64
 go_wp2_with fail
 refine (ropen_eqF s hl HT _).mono ?_
 rintro e w2 ⟨rfl,b2⟩
 replace R:=hZq (upQ R.out b2)
 replace HB:=hZq (below2Z HB.out b2)
 clear b2
 go_wp2_with fail
 have hRl:=(Array.getElem?_eq_some_iff.1 R.out).1
 refine (frread_any t htl HE _).mono ?_
 rintro e w3 ⟨v,rfl,hov,b3⟩
 replace R:=hZq (upQ R.out b3)
 replace HB:=hZq (below2Z HB.out b3)
 obtain⟨va,vc,rfl,-⟩:=Tab.open' (OwnR.tab hov)
 have V:=hZq (OwnR.mono hov (Nat.succ_le_of_lt hRl))
 clear hov hRl
 clear b3
 go_wp2_with fail
 have b4:=bl_newZ w3 (.cells #[.int .i64 k,.int .i64 q,.bool on,.string ⟨c.toArray⟩,.int .i64 sh,.int .i64 pr,.int .i64 si,.string ⟨st.toArray⟩,.int .u64 sum,.slice va tt.length vc] 29)
 have E:=newQ w3 (.cells #[.int .i64 k,.int .i64 q,.bool on,.string ⟨c.toArray⟩,.int .i64 sh,.int .i64 pr,.int .i64 si,.string ⟨st.toArray⟩,.int .u64 sum,.slice va tt.length vc] 29)
 have hE:w.heap.size≤w3.heap.size:=HB.out.size
 replace R:=hZq (upQ R.out b4)
 replace V:=hZq (OwnR.later V.out b4)
 replace HB:=hZq (below2Z HB.out b4)
 clear b4
 replace E:=hZq E
 generalize w3.alloc (.cells #[.int .i64 k,.int .i64 q,.bool on,.string ⟨c.toArray⟩,.int .i64 sh,.int .i64 pr,.int .i64 si,.string ⟨st.toArray⟩,.int .u64 sum,.slice va tt.length vc] 29)=w5 at R E V HB ⊢
 generalize w3.heap.size=BE at E hE ⊢
 obtain⟨⟨Ec0,Ec1,Ec2,Ec3,Ec4,Ec5,Ec6,Ec7,Ec8,Ec9⟩,⟨Ef0,Ef1,Ef2,Ef3,Ef4,Ef5,Ef6,Ef7,Ef8,Ef9⟩⟩:=blk10 E.out
 go_wp2_with fail
 clear Ec0 Ec1 Ec2 Ec3 Ec4 Ec5 Ec6 Ec7 Ec8 Ec9 Ef0 Ef1 Ef2 Ef3 Ef4 Ef5 Ef6 Ef7 Ef8 Ef9
 refine (rfrenc_any (OwnR.tab V.out) HSH.out hc hst hsum HC).mono ?_
 rintro e w6 ⟨rfl,b6⟩
 replace R:=hZq (upQ R.out b6)
 replace E:=hZq (upQ E.out b6)
 replace V:=hZq (OwnR.later V.out b6)
 replace HB:=hZq (below2Z HB.out b6)
 clear b6
 obtain⟨⟨Rc0,Rc1,Rc2,Rc3,Rc4,Rc5,Rc6,Rc7,Rc8,Rc9⟩,⟨Rf0,Rf1,Rf2,Rf3,Rf4,Rf5,Rf6,Rf7,Rf8,Rf9⟩⟩:=blk10 R.out
 have t1:=T1.out
 go_wp2_with fail
 refine bodyPost_ret (v:=.tuple #[.agg #[.int .i64 0,.int .i64 0,.bool false,.string ⟨#[]⟩,.int .i64 0,.int .i64 0,.int .i64 0,.string ⟨#[]⟩,.int .u64 0,.slice none 0 0],.int .i64 3]) (by simp [results,Tryz.results64,go_sem,Rc0,Rc1,Rc2,Rc3,Rc4,Rc5,Rc6,Rc7,Rc8,Rc9]) rfl ⟨_,rfl,ownR_nil _ _,?_⟩
 exact ((((((((((HB.out.setCell (Nat.le_refl _) _).setCell (Nat.le_refl _) _).setCell (Nat.le_refl _) _).setCell (Nat.le_refl _) _).setCell (Nat.le_refl _) _).setCell (Nat.le_refl _) _).setCell (Nat.le_refl _) _).setCell (Nat.le_refl _) _).setCell (Nat.le_refl _) _).setCell (Nat.le_refl _) _)

theorem rfrdec_ok (s:List UInt8) (hl:s.length≤4294967296) {t:List UInt8} (HT:Hid (copen s=(t,0))) (htl:t.length≤4294967296) {k q sh pr si:Int} {on:Bool} {c st:List UInt8} {sum:Nat} {tt:List Row} (HE:Hid (frRead t=⟨k,q,on,c,⟨sh,pr,si,st⟩,sum,tt⟩)) (HSH:Hid (Short tt)) (hc:c.length≤4294967296) (hst:st.length≤4294967296) (hsum:sum < 18446744073709551616) (HC:Hid (frEnc ⟨k,q,on,c,⟨sh,pr,si,st⟩,sum,tt⟩=(s,0))) (w:World) :
  Calls Tryz.prog 64 #[.string ⟨s.toArray⟩] w fun e w' => ∃ v,e=.returned (.tuple #[.agg #[.int .i64 k,.int .i64 q,.bool on,.string ⟨c.toArray⟩,.int .i64 sh,.int .i64 pr,.int .i64 si,.string ⟨st.toArray⟩,.int .u64 sum,v],.int .i64 0])∧OwnR w' w.heap.size v tt∧Below w.heap.size w w':=by
 have b0:=bl_newZ w (.cells #[.int .i64 0,.int .i64 0,.bool false,.string ⟨#[]⟩,.int .i64 0,.int .i64 0,.int .i64 0,.string ⟨#[]⟩,.int .u64 0,.slice none 0 0] 29)
 have HB:=hZq b0
 have R:=newQ w (.cells #[.int .i64 0,.int .i64 0,.bool false,.string ⟨#[]⟩,.int .i64 0,.int .i64 0,.int .i64 0,.string ⟨#[]⟩,.int .u64 0,.slice none 0 0] 29)
 replace R:=hZq R
 clear b0
 go_enter Tryz.func64,Tryz.ntmps64
 go_wp2_with fail
 refine (ropen_eqF s hl HT _).mono ?_
 rintro e w2 ⟨rfl,b2⟩
 replace R:=hZq (upQ R.out b2)
 replace HB:=hZq (below2Z HB.out b2)
 clear b2
 go_wp2_with fail
 have hRl:=(Array.getElem?_eq_some_iff.1 R.out).1
 refine (frread_any t htl HE _).mono ?_
 rintro e w3 ⟨v,rfl,hov,b3⟩
 replace R:=hZq (upQ R.out b3)
 replace HB:=hZq (below2Z HB.out b3)
 obtain⟨va,vc,rfl,-⟩:=Tab.open' (OwnR.tab hov)
 have V:=hZq (OwnR.mono hov (Nat.succ_le_of_lt hRl))
 clear hov hRl
 clear b3
 go_wp2_with fail
 have b4:=bl_newZ w3 (.cells #[.int .i64 k,.int .i64 q,.bool on,.string ⟨c.toArray⟩,.int .i64 sh,.int .i64 pr,.int .i64 si,.string ⟨st.toArray⟩,.int .u64 sum,.slice va tt.length vc] 29)
 have E:=newQ w3 (.cells #[.int .i64 k,.int .i64 q,.bool on,.string ⟨c.toArray⟩,.int .i64 sh,.int .i64 pr,.int .i64 si,.string ⟨st.toArray⟩,.int .u64 sum,.slice va tt.length vc] 29)
 have hE:w.heap.size≤w3.heap.size:=HB.out.size
 replace R:=hZq (upQ R.out b4)
 replace V:=hZq (OwnR.later V.out b4)
 replace HB:=hZq (below2Z HB.out b4)
 clear b4
 replace E:=hZq E
 generalize w3.alloc (.cells #[.int .i64 k,.int .i64 q,.bool on,.string ⟨c.toArray⟩,.int .i64 sh,.int .i64 pr,.int .i64 si,.string ⟨st.toArray⟩,.int .u64 sum,.slice va tt.length vc] 29)=w5 at R E V HB ⊢
 generalize w3.heap.size=BE at E hE ⊢
 obtain⟨⟨Ec0,Ec1,Ec2,Ec3,Ec4,Ec5,Ec6,Ec7,Ec8,Ec9⟩,⟨Ef0,Ef1,Ef2,Ef3,Ef4,Ef5,Ef6,Ef7,Ef8,Ef9⟩⟩:=blk10 E.out
 go_wp2_with fail
 clear Ec0 Ec1 Ec2 Ec3 Ec4 Ec5 Ec6 Ec7 Ec8 Ec9 Ef0 Ef1 Ef2 Ef3 Ef4 Ef5 Ef6 Ef7 Ef8 Ef9
 refine (rfrenc_any (OwnR.tab V.out) HSH.out hc hst hsum HC).mono ?_
 rintro e w6 ⟨rfl,b6⟩
 replace R:=hZq (upQ R.out b6)
 replace E:=hZq (upQ E.out b6)
 replace V:=hZq (OwnR.later V.out b6)
 replace HB:=hZq (below2Z HB.out b6)
 clear b6
 obtain⟨⟨Rc0,Rc1,Rc2,Rc3,Rc4,Rc5,Rc6,Rc7,Rc8,Rc9⟩,⟨Rf0,Rf1,Rf2,Rf3,Rf4,Rf5,Rf6,Rf7,Rf8,Rf9⟩⟩:=blk10 R.out
 obtain⟨⟨Ec0,Ec1,Ec2,Ec3,Ec4,Ec5,Ec6,Ec7,Ec8,Ec9⟩,⟨Ef0,Ef1,Ef2,Ef3,Ef4,Ef5,Ef6,Ef7,Ef8,Ef9⟩⟩:=blk10 E.out
 go_wp2_with fail
 refine bodyPost_ret (v:=.tuple #[.agg #[.int .i64 k,.int .i64 q,.bool on,.string ⟨c.toArray⟩,.int .i64 sh,.int .i64 pr,.int .i64 si,.string ⟨st.toArray⟩,.int .u64 sum,.slice va tt.length vc],.int .i64 0]) (by simp [results,Tryz.results64,go_sem,Rc0,Rc1,Rc2,Rc3,Rc4,Rc5,Rc6,Rc7,Rc8,Rc9]) rfl ⟨_,rfl,OwnR.mono ((((((((((V.out.setCell (Nat.lt_succ_self _) _).setCell (Nat.lt_succ_self _) _).setCell (Nat.lt_succ_self _) _).setCell (Nat.lt_succ_self _) _).setCell (Nat.lt_succ_self _) _).setCell (Nat.lt_succ_self _) _).setCell (Nat.lt_succ_self _) _).setCell (Nat.lt_succ_self _) _).setCell (Nat.lt_succ_self _) _).setCell (Nat.lt_succ_self _) _) (Nat.le_succ _),?_⟩
 exact ((((((((((HB.out.setCell (Nat.le_refl _) _).setCell (Nat.le_refl _) _).setCell (Nat.le_refl _) _).setCell (Nat.le_refl _) _).setCell (Nat.le_refl _) _).setCell (Nat.le_refl _) _).setCell (Nat.le_refl _) _).setCell (Nat.le_refl _) _).setCell (Nat.le_refl _) _).setCell (Nat.le_refl _) _)

theorem rfrdec_any (s:List UInt8) (hl:s.length≤4294967296) {k q sh pr si:Int} {on:Bool} {c st:List UInt8} {sum:Nat} {tt:List Row} {er:Nat} (h:Hid (frDec s=(⟨k,q,on,c,⟨sh,pr,si,st⟩,sum,tt⟩,er))) (w:World) :
  Calls Tryz.prog 64 #[.string ⟨s.toArray⟩] w fun e w' => ∃ v,e=.returned (.tuple #[.agg #[.int .i64 k,.int .i64 q,.bool on,.string ⟨c.toArray⟩,.int .i64 sh,.int .i64 pr,.int .i64 si,.string ⟨st.toArray⟩,.int .u64 sum,v],.int .i64 er])∧OwnR w' w.heap.size v tt∧Below w.heap.size w w':=by
 have e:=h.out
 rw [frDec_doc] at e
 unfold frDoc at e
 obtain⟨t,er0,ht⟩ : ∃ t er,copen s=(t,er):=⟨_,_,rfl⟩
 have htl:=copen_lenF ht
 rw [ht] at e
 by_cases he:er0=0
 case neg =>
  rw [if_pos (by simpa using he)] at e
  simp only [Frm.zero,Val.zero,Prod.mk.injEq,Frm.mk.injEq,Val.mk.injEq] at e
  obtain⟨⟨rfl,rfl,rfl,rfl,⟨rfl,rfl,rfl,rfl⟩,rfl,rfl⟩,rfl⟩:=e
  exact rfrdec_err s hl (hZq ht) he w
 subst he
 rw [if_neg (by simp)] at e
 have hs:=frRead_short t (by omega)
 obtain⟨⟨k1,q1,on1,c1,⟨sh1,pr1,si1,st1⟩,sum1,t1⟩,hr⟩ : ∃ f,frRead t=f:=⟨_,rfl⟩
 simp only [hr] at e
 rw [hr] at hs
 obtain⟨s1,s2,s3,s4⟩:=hs
 simp only at s1 s2 s3 s4
 cases hm:frMay ⟨k1,q1,on1,c1,⟨sh1,pr1,si1,st1⟩,sum1,t1⟩ with
 | false =>
  rw [if_neg (by simp [hm])] at e
  simp only [Frm.zero,Val.zero,Prod.mk.injEq,Frm.mk.injEq,Val.mk.injEq] at e
  obtain⟨⟨rfl,rfl,rfl,rfl,⟨rfl,rfl,rfl,rfl⟩,rfl,rfl⟩,rfl⟩:=e
  exact rfrdec_no s hl (hZq ht) (by omega) (hZq hr) (hZq s3) s1 s2 s4 (hZq (by unfold frEnc; rw [if_neg (by simp [hm])])) w
 | true =>
  by_cases hp:cseal (frPlain ⟨k1,q1,on1,c1,⟨sh1,pr1,si1,st1⟩,sum1,t1⟩)=s
  ·rw [if_pos ⟨hm,hp⟩] at e
   simp only [Prod.mk.injEq,Frm.mk.injEq,Val.mk.injEq] at e
   obtain⟨⟨rfl,rfl,rfl,rfl,⟨rfl,rfl,rfl,rfl⟩,rfl,rfl⟩,rfl⟩:=e
   exact rfrdec_ok s hl (hZq ht) (by omega) (hZq hr) (hZq s3) s1 s2 s4 (hZq (by unfold frEnc; rw [if_pos hm,hp])) w
  ·rw [if_neg (fun h => hp h.2)] at e
   simp only [Frm.zero,Val.zero,Prod.mk.injEq,Frm.mk.injEq,Val.mk.injEq] at e
   obtain⟨⟨rfl,rfl,rfl,rfl,⟨rfl,rfl,rfl,rfl⟩,rfl,rfl⟩,rfl⟩:=e
   exact rfrdec_dif s hl (hZq ht) (by omega) (hZq hr) (hZq s3) s1 s2 s4 (hZq (by unfold frEnc; rw [if_pos hm])) (hZq (by rw [beq_eq_false_iff_ne]; exact hp)) w

end Go.Proofs.YtekkofldhhdpgaaGreat

end

section

namespace Go.Proofs.YtekkofldhhdpgaaGreat
open Go.RowKit

theorem rclread_e {w:World} {v:Value} {t:List Row} (hv:Tab w v t) (n:Int) (o:Bool) (s0:List UInt8) (hl0:s0.length≤4294967296) {er:Nat} (HD:Hid (frDec s0=(⟨0,0,false,[],⟨0,0,0,[]⟩,0,[]⟩,er))) (her:er ≠ 0) :
  Calls Tryz.prog 25 #[.agg #[v,.int .i64 n,.bool o],.string ⟨s0.toArray⟩] w fun e w' => ∃ u,e=.returned (.tuple #[.agg #[u,.int .i64 n,.bool o],.int .i64 er])∧RT w' w.heap.size u v t t∧Below w.heap.size w w':=by
 have t4:((er:Int) != 0)=true:=by simp; omega
 clear her
 obtain⟨ca,cc,rfl,-⟩:=hv.open'
 have VA:=hZq (fun X (hX:Below w.heap.size w X) => hv.later hX)
 have b0:=bl_newZ w (.cells #[.slice ca t.length cc,.int .i64 n,.bool o] 24)
 have b1:=bl_newZ (w.alloc (.cells #[.slice ca t.length cc,.int .i64 n,.bool o] 24)) (.cells #[.slice none 0 0,.int .i64 0,.bool false] 24)
 have HB:=hZq (below2Z b0 b1)
 have CB:=newQ w (.cells #[.slice ca t.length cc,.int .i64 n,.bool o] 24)
 replace CB:=upQ CB b1
 replace CB:=hZq CB
 have RB:=newQ (w.alloc (.cells #[.slice ca t.length cc,.int .i64 n,.bool o] 24)) (.cells #[.slice none 0 0,.int .i64 0,.bool false] 24)
 rw [World.size_alloc] at RB
 replace RB:=hZq RB
 clear b0 b1
 clear hv
 go_enter Tryz.func25,Tryz.ntmps25
 go_wp2_with fail
 generalize (w.alloc (.cells #[.slice ca t.length cc,.int .i64 n,.bool o] 24)).alloc (.cells #[.slice none 0 0,.int .i64 0,.bool false] 24)=w3 at CB RB HB ⊢
 refine (rfrdec_any s0 hl0 HD _).mono ?_
 rintro e w4 ⟨v4,rfl,hov4,b4⟩
 replace CB:=hZq (upQ CB.out b4)
 replace RB:=hZq (upQ RB.out b4)
 replace HB:=hZq (below2Z HB.out b4)
 obtain⟨ta,tc,rfl,-⟩:=Tab.open' (OwnR.tab hov4)
 have VT:=hZq hov4
 clear hov4
 clear b4
 go_upto_region 2 with fail
 have hRB:=(Array.getElem?_eq_some_iff.1 RB.out).1
 have b5:=bl_newZ w4 (.cells #[.int .i64 0,.int .i64 0,.bool false,.string ⟨([]:List UInt8).toArray⟩,.int .i64 0,.int .i64 0,.int .i64 0,.string ⟨([]:List UInt8).toArray⟩,.int .u64 0,.slice ta 0 tc] 29)
 have FB:=newQ w4 (.cells #[.int .i64 0,.int .i64 0,.bool false,.string ⟨([]:List UInt8).toArray⟩,.int .i64 0,.int .i64 0,.int .i64 0,.string ⟨([]:List UInt8).toArray⟩,.int .u64 0,.slice ta 0 tc] 29)
 have hFB:w.heap.size≤w4.heap.size:=HB.out.size
 replace CB:=hZq (upQ CB.out b5)
 replace RB:=hZq (upQ RB.out b5)
 replace VT:=hZq (OwnR.later VT.out b5)
 replace HB:=hZq (below2Z HB.out b5)
 clear b5
 replace FB:=hZq FB
 generalize w4.alloc (.cells #[.int .i64 0,.int .i64 0,.bool false,.string ⟨([]:List UInt8).toArray⟩,.int .i64 0,.int .i64 0,.int .i64 0,.string ⟨([]:List UInt8).toArray⟩,.int .u64 0,.slice ta 0 tc] 29)=w6 at CB RB FB VT HB ⊢
 generalize w4.heap.size=BF at FB hFB hRB ⊢
 obtain⟨⟨CBc0,CBc1,CBc2⟩,⟨CBf0,CBf1,CBf2⟩⟩:=blk3 CB.out
 obtain⟨⟨RBc0,RBc1,RBc2⟩,⟨RBf0,RBf1,RBf2⟩⟩:=blk3 RB.out
 go_wp2_with fail
 clear CBc0 CBc1 CBc2 CBf0 CBf1 CBf2 RBc0 RBc1 RBc2 RBf0 RBf1 RBf2
 have hz:=stN3_heap RB.out (.slice ca t.length cc) (.int .i64 n) (.bool o)
 have hle:w.heap.size≤w.heap.size+1:=by omega
 obtain⟨⟨z0,z1,z2⟩,-⟩:=blk3 hz
 unfold stN3 at z0 z1 z2
 refine bodyPost_ret (v:=.tuple #[.agg #[.slice ca t.length cc,.int .i64 n,.bool o],.int .i64 er]) (by simp [results,Tryz.results25,go_sem,z0,z1,z2]) rfl ?_
 exact⟨_,rfl,.inl ⟨rfl,rfl⟩,((HB.out.setCell hle _).setCell hle _).setCell hle _⟩

theorem rclread_o {w:World} {v:Value} {t:List Row} (hv:Tab w v t) (n:Int) (o:Bool) (s0:List UInt8) (hl0:s0.length≤4294967296) {k s sh pr si:Int} {on:Bool} {c st:List UInt8} {sum:Nat} {tt:List Row} (HD:Hid (frDec s0=(⟨k,s,on,c,⟨sh,pr,si,st⟩,sum,tt⟩,0))) (hsT:Short t) (hl:t.length≤1000) (hsh:Short tt) (_hl2:tt.length≤1000) (hc:c.length≤4294967296) (hst:st.length≤4294967296) (_hk:(Lit.int .i64 k).wf=true) {t2:List Row} {n2:Int} {o2:Bool} (HF:Hid (clFeed ⟨t,n,o⟩ ⟨k,s,on,c,⟨sh,pr,si,st⟩,sum,tt⟩=⟨t2,n2,o2⟩)) :
  Calls Tryz.prog 25 #[.agg #[v,.int .i64 n,.bool o],.string ⟨s0.toArray⟩] w fun e w' => ∃ u,e=.returned (.tuple #[.agg #[u,.int .i64 n2,.bool o2],.int .i64 0])∧RT w' w.heap.size u v t2 t∧Below w.heap.size w w':=by
 obtain⟨ca,cc,rfl,-⟩:=hv.open'
 have VA:=hZq (fun X (hX:Below w.heap.size w X) => hv.later hX)
 have b0:=bl_newZ w (.cells #[.slice ca t.length cc,.int .i64 n,.bool o] 24)
 have b1:=bl_newZ (w.alloc (.cells #[.slice ca t.length cc,.int .i64 n,.bool o] 24)) (.cells #[.slice none 0 0,.int .i64 0,.bool false] 24)
 have HB:=hZq (below2Z b0 b1)
 have CB:=newQ w (.cells #[.slice ca t.length cc,.int .i64 n,.bool o] 24)
 replace CB:=upQ CB b1
 replace CB:=hZq CB
 have RB:=newQ (w.alloc (.cells #[.slice ca t.length cc,.int .i64 n,.bool o] 24)) (.cells #[.slice none 0 0,.int .i64 0,.bool false] 24)
 rw [World.size_alloc] at RB
 replace RB:=hZq RB
 clear b0 b1
 clear hv
 go_enter Tryz.func25,Tryz.ntmps25
 go_wp2_with fail
 generalize (w.alloc (.cells #[.slice ca t.length cc,.int .i64 n,.bool o] 24)).alloc (.cells #[.slice none 0 0,.int .i64 0,.bool false] 24)=w3 at CB RB HB ⊢
 have hVB:Hid (w.heap.size+1+1≤w3.heap.size):=hZq (Array.getElem?_eq_some_iff.1 RB.out).1
 refine (rfrdec_any s0 hl0 HD _).mono ?_
 rintro e w4 ⟨v4,rfl,hov4,b4⟩
 replace CB:=hZq (upQ CB.out b4)
 replace RB:=hZq (upQ RB.out b4)
 replace HB:=hZq (below2Z HB.out b4)
 obtain⟨ta,tc,rfl,-⟩:=Tab.open' (OwnR.tab hov4)
 have VT:=hZq hov4
 clear hov4
 clear b4
 go_upto_region 2 with fail
 have hRB:=(Array.getElem?_eq_some_iff.1 RB.out).1
 have b5:=bl_newZ w4 (.cells #[.int .i64 k,.int .i64 s,.bool on,.string ⟨c.toArray⟩,.int .i64 sh,.int .i64 pr,.int .i64 si,.string ⟨st.toArray⟩,.int .u64 sum,.slice ta tt.length tc] 29)
 have FB:=newQ w4 (.cells #[.int .i64 k,.int .i64 s,.bool on,.string ⟨c.toArray⟩,.int .i64 sh,.int .i64 pr,.int .i64 si,.string ⟨st.toArray⟩,.int .u64 sum,.slice ta tt.length tc] 29)
 have hFB:w.heap.size≤w4.heap.size:=HB.out.size
 replace CB:=hZq (upQ CB.out b5)
 replace RB:=hZq (upQ RB.out b5)
 replace VT:=hZq (OwnR.later VT.out b5)
 replace HB:=hZq (below2Z HB.out b5)
 clear b5
 replace FB:=hZq FB
 generalize w4.alloc (.cells #[.int .i64 k,.int .i64 s,.bool on,.string ⟨c.toArray⟩,.int .i64 sh,.int .i64 pr,.int .i64 si,.string ⟨st.toArray⟩,.int .u64 sum,.slice ta tt.length tc] 29)=w6 at CB RB FB VT HB ⊢
 generalize w4.heap.size=BF at FB hFB hRB ⊢
 obtain⟨⟨CBc0,CBc1,CBc2⟩,⟨CBf0,CBf1,CBf2⟩⟩:=blk3 CB.out
 obtain⟨⟨FBc0,FBc1,FBc2,FBc3,FBc4,FBc5,FBc6,FBc7,FBc8,FBc9⟩,⟨FBf0,FBf1,FBf2,FBf3,FBf4,FBf5,FBf6,FBf7,FBf8,FBf9⟩⟩:=blk10 FB.out
 go_wp2_with fail
 clear CBc0 CBc1 CBc2 CBf0 CBf1 CBf2 FBc0 FBc1 FBc2 FBc3 FBc4 FBc5 FBc6 FBc7 FBc8 FBc9 FBf0 FBf1 FBf2 FBf3 FBf4 FBf5 FBf6 FBf7 FBf8 FBf9
 have hFR:=(Array.getElem?_eq_some_iff.1 FB.out).1
 refine (rclfeed_any (VA.out _ HB.out) (OwnR.tab VT.out) n o hsT hsh hc hst hl HF).mono ?_
 rintro e w7 ⟨u7,rfl,hu7,b7⟩
 replace CB:=hZq (upQ CB.out b7)
 replace RB:=hZq (upQ RB.out b7)
 replace FB:=hZq (upQ FB.out b7)
 replace VT:=hZq (OwnR.later VT.out b7)
 replace HB:=hZq (below2Z HB.out b7)
 obtain⟨ua,un,uc,rfl⟩:=hu7.shape
 have U:=hZq (CT.mono hu7 (show w.heap.size+1+1≤_ by omega))
 clear hu7 hFR
 clear b7
 obtain⟨⟨RBc0,RBc1,RBc2⟩,⟨RBf0,RBf1,RBf2⟩⟩:=blk3 RB.out
 go_wp2_with fail
 clear RBc0 RBc1 RBc2 RBf0 RBf1 RBf2
 have hz:=stN3_heap RB.out (.slice ua un uc) (.int .i64 n2) (.bool o2)
 have hle:w.heap.size≤w.heap.size+1:=by omega
 obtain⟨⟨z0,z1,z2⟩,-⟩:=blk3 hz
 unfold stN3 at z0 z1 z2
 refine bodyPost_ret (v:=.tuple #[.agg #[.slice ua un uc,.int .i64 n2,.bool o2],.int .i64 0]) (by simp [results,Tryz.results25,go_sem,z0,z1,z2]) rfl ?_
 have hlt2:w.heap.size+1 < w.heap.size+1+1:=Nat.lt_succ_self _
 have U3:=((U.out.set (a:=⟨w.heap.size+1,0,none⟩) hlt2 (.slice ua un uc)).set (a:=⟨w.heap.size+1,1,none⟩) hlt2 (.int .i64 n2)).set (a:=⟨w.heap.size+1,2,none⟩) hlt2 (.bool o2)
 have V3:=((OwnR.setCell (a:=⟨w.heap.size+1,0,none⟩) (OwnR.mono VT.out hVB.out) hlt2 (.slice ua un uc)).setCell (a:=⟨w.heap.size+1,1,none⟩) hlt2 (.int .i64 n2)).setCell (a:=⟨w.heap.size+1,2,none⟩) hlt2 (.bool o2)
 refine ⟨_,rfl,?_,?_⟩
 ·rcases U3 with ⟨h1,h2⟩ | ⟨h1,h2⟩ | h
  ·exact .inl ⟨h1,h2⟩
  ·rw [← h1] at V3
   rw [h2]
   exact .inr (OwnR.mono V3 (by omega))
  ·exact .inr (OwnR.mono h (by omega))
 ·exact ((HB.out.setCell hle _).setCell hle _).setCell hle _

theorem rclread_any {w:World} {v:Value} {t:List Row} (hv:Tab w v t) (hsT:Short t) (hl:t.length≤1000) (n:Int) (o:Bool) (s0:List UInt8) (hl0:s0.length≤4294967296) {t2:List Row} {n2:Int} {o2:Bool} {er:Nat} (h:Hid (clRead ⟨t,n,o⟩ s0=(⟨t2,n2,o2⟩,er))) :
  Calls Tryz.prog 25 #[.agg #[v,.int .i64 n,.bool o],.string ⟨s0.toArray⟩] w fun e w' => ∃ u,e=.returned (.tuple #[.agg #[u,.int .i64 n2,.bool o2],.int .i64 er])∧RT w' w.heap.size u v t2 t∧Below w.heap.size w w':=by
 have h:=h.out
 obtain⟨f,e,hd⟩ : ∃ f e,frDec s0=(f,e):=⟨_,_,rfl⟩
 by_cases he:e=0
 ·subst he
  rw [clRead_ok hd] at h
  obtain⟨m1,m2,m3,m4⟩:=dec_okC hd hl0
  obtain⟨k,s,on,c,⟨sh,pr,si,st⟩,sum,tt⟩:=f
  simp only [Prod.mk.injEq] at h
  obtain⟨h1,rfl⟩:=h
  exact rclread_o hv n o s0 hl0 (hZq hd) hsT hl m2.t m3 m2.c m2.st m4 (hZq h1)
 ·obtain rfl:=dec_errC hd he
  rw [clRead_err hd he] at h
  simp only [Prod.mk.injEq,Cli.mk.injEq] at h
  obtain⟨⟨rfl,rfl,rfl⟩,rfl⟩:=h
  exact rclread_e hv n o s0 hl0 (hZq hd) he

end Go.Proofs.YtekkofldhhdpgaaGreat

end

section

namespace Go.Proofs.YtekkofldhhdpgaaGreat
open Go.RowKit

def fewF (f:Frm):Bool:=fewT f.t && (decide (f.c.length≤60) && decide (f.v.st.length≤100))

theorem fewf_eq {w:World} {v:Value} {t:List Row} (hv:Tab w v t) (k s:Int) (on:Bool) (c:List UInt8) (sh pr si:Int) (st:List UInt8) (sum:Nat) (hc:c.length≤maxLen) (hst:st.length≤maxLen)
  {r:Bool} (h:Hid (fewF ⟨k,s,on,c,⟨sh,pr,si,st⟩,sum,t⟩=r)) :
  Calls Tryz.prog 13 #[.agg #[.int .i64 k,.int .i64 s,.bool on,.string ⟨c.toArray⟩,.int .i64 sh,.int .i64 pr,.int .i64 si,.string ⟨st.toArray⟩,.int .u64 sum,v]] w fun e w' => e=.returned (.bool r)∧Below w.heap.size w w':=by
 unfold maxLen at hc hst
 have B0:Hid (Below w.heap.size w (w.alloc (.cells #[.int .i64 k,.int .i64 s,.bool on,.string ⟨c.toArray⟩,.int .i64 sh,.int .i64 pr,.int .i64 si,.string ⟨st.toArray⟩,.int .u64 sum,v] 29))):=hZq ((Below.refl _ _).alloc (Nat.le_refl _) _)
 have HV:=hZq (hv.later B0.out)
 obtain⟨z,hz⟩ : ∃ z,fewT t=z:=⟨_,rfl⟩
 have HF:=hZq (fewt_eq HV.out (hZq hz))
 have e:=h.out
 unfold fewF at e
 simp only [hz] at e
 clear h hz hv
 cases z with
 | false =>
  obtain rfl:false=r:=by simpa using e
  go_enter Tryz.func13,Tryz.ntmps13
  go_wp2_with fail
  refine HF.out.mono ?_
  rintro e w1 ⟨rfl,rfl⟩
  go_wp2_with fail
  go_ret
  exact⟨rfl,B0.out⟩
 | true =>
  by_cases h1:c.length≤60
  ·by_cases h2:st.length≤100
   ·obtain rfl:true=r:=by simpa [h1,h2] using e
    have t1:decide ((c.length:Int)≤60)=true:=by simp; omega
    have t2:decide ((st.length:Int)≤100)=true:=by simp; omega
    clear h1 h2
    go_enter Tryz.func13,Tryz.ntmps13
    go_wp2_with fail
    refine HF.out.mono ?_
    rintro e w1 ⟨rfl,rfl⟩
    go_wp2_with fail
    go_ret
    exact⟨rfl,B0.out⟩
   ·obtain rfl:false=r:=by simpa [h1,h2] using e
    have t1:decide ((c.length:Int)≤60)=true:=by simp; omega
    have t2:decide ((st.length:Int)≤100)=false:=by simp; omega
    clear h1 h2
    go_enter Tryz.func13,Tryz.ntmps13
    go_wp2_with fail
    refine HF.out.mono ?_
    rintro e w1 ⟨rfl,rfl⟩
    go_wp2_with fail
    go_ret
    exact⟨rfl,B0.out⟩
  ·obtain rfl:false=r:=by simpa [h1] using e
   have t2:decide ((c.length:Int)≤60)=false:=by simp; omega
   go_enter Tryz.func13,Tryz.ntmps13
   go_wp2_with fail
   refine HF.out.mono ?_
   rintro e w1 ⟨rfl,rfl⟩
   go_wp2_with fail
   go_ret
   exact⟨rfl,B0.out⟩

end Go.Proofs.YtekkofldhhdpgaaGreat

end

section

namespace Go.Proofs.YtekkofldhhdpgaaGreat
open Go.RowKit

theorem clfew_eq {w:World} {v:Value} {t:List Row} (hv:Tab w v t) (n:Int) (o:Bool) {r:Bool} (h:Hid (fewT t=r)) :
  Calls Tryz.prog 12 #[.agg #[v,.int .i64 n,.bool o]] w fun e w' => e=.returned (.bool r)∧Below w.heap.size w w':=by
 obtain⟨ca,cc,rfl,-⟩:=hv.open'
 have b0:=bl_newZ w (.cells #[.slice ca t.length cc,.int .i64 n,.bool o] 24)
 have HB:=hZq b0
 have VA:=hZq (hv.later b0)
 have CB:=newQ w (.cells #[.slice ca t.length cc,.int .i64 n,.bool o] 24)
 replace CB:=hZq CB
 clear b0
 clear hv
 go_enter Tryz.func12,Tryz.ntmps12
 obtain⟨⟨CBc0,CBc1,CBc2⟩,⟨CBf0,CBf1,CBf2⟩⟩:=blk3 CB.out
 go_wp2_with fail
 clear CBc0 CBc1 CBc2 CBf0 CBf1 CBf2
 refine (fewt_eq VA.out h).mono ?_
 rintro e w' ⟨rfl,rfl⟩
 go_wp2_with fail
 go_ret
 exact⟨rfl,HB.out⟩

theorem rclsame_t {w:World} {v1 v2:Value} {t1 t2:List Row} (hv1:Tab w v1 t1) (hv2:Tab w v2 t2) (n1 n2:Int) (o1 o2:Bool) (HR:Hid (tSame t1 t2=false))  :
  Calls Tryz.prog 17 #[.agg #[v1,.int .i64 n1,.bool o1],.agg #[v2,.int .i64 n2,.bool o2]] w fun e w' => e=.returned (.bool false)∧Below w.heap.size w w':=by
 obtain⟨va,ca,rfl,-⟩:=hv1.open'
 obtain⟨vb,cb,rfl,-⟩:=hv2.open'
 have b0:=bl_newZ w (.cells #[.slice va t1.length ca,.int .i64 n1,.bool o1] 24)
 have b1:=bl_newZ (w.alloc (.cells #[.slice va t1.length ca,.int .i64 n1,.bool o1] 24)) (.cells #[.slice vb t2.length cb,.int .i64 n2,.bool o2] 24)
 have HB:=hZq (below2Z b0 b1)
 have VA:=hZq ((hv1.later b0).later b1)
 have VB:=hZq ((hv2.later b0).later b1)
 have CA:=newQ w (.cells #[.slice va t1.length ca,.int .i64 n1,.bool o1] 24)
 replace CA:=upQ CA b1
 replace CA:=hZq CA
 have CB:=newQ (w.alloc (.cells #[.slice va t1.length ca,.int .i64 n1,.bool o1] 24)) (.cells #[.slice vb t2.length cb,.int .i64 n2,.bool o2] 24)
 rw [World.size_alloc] at CB
 replace CB:=hZq CB
 clear b0 b1
 clear hv1 hv2
 go_enter Tryz.func17,Tryz.ntmps17
 obtain⟨⟨CAc0,CAc1,CAc2⟩,⟨CAf0,CAf1,CAf2⟩⟩:=blk3 CA.out
 obtain⟨⟨CBc0,CBc1,CBc2⟩,⟨CBf0,CBf1,CBf2⟩⟩:=blk3 CB.out
 go_wp2_with fail
 clear CAc0 CAc1 CAc2 CAf0 CAf1 CAf2 CBc0 CBc1 CBc2 CBf0 CBf1 CBf2
 refine (tsame_eq VA.out VB.out HR).mono ?_
 rintro e w3 ⟨rfl,b3⟩
 replace CA:=hZq (upQ CA.out b3)
 replace CB:=hZq (upQ CB.out b3)
 replace VA:=hZq (VA.out.later b3)
 replace VB:=hZq (VB.out.later b3)
 replace HB:=hZq (below2Z HB.out b3)
 clear b3
 obtain⟨⟨CAc0,CAc1,CAc2⟩,⟨CAf0,CAf1,CAf2⟩⟩:=blk3 CA.out
 obtain⟨⟨CBc0,CBc1,CBc2⟩,⟨CBf0,CBf1,CBf2⟩⟩:=blk3 CB.out
 go_wp2_with fail
 clear CAc0 CAc1 CAc2 CAf0 CAf1 CAf2 CBc0 CBc1 CBc2 CBf0 CBf1 CBf2
 go_ret
 exact⟨rfl,HB.out⟩

theorem rclsame_a {w:World} {v1 v2:Value} {t1 t2:List Row} (hv1:Tab w v1 t1) (hv2:Tab w v2 t2) (n1 n2:Int) (o1 o2:Bool) (HR:Hid (tSame t1 t2=true)) (h:¬ n1=n2) :
  Calls Tryz.prog 17 #[.agg #[v1,.int .i64 n1,.bool o1],.agg #[v2,.int .i64 n2,.bool o2]] w fun e w' => e=.returned (.bool false)∧Below w.heap.size w w':=by
 have g1:(n1 == n2)=false:=by rw [beq_eq_false_iff_ne]; exact h
 clear h
 obtain⟨va,ca,rfl,-⟩:=hv1.open'
 obtain⟨vb,cb,rfl,-⟩:=hv2.open'
 have b0:=bl_newZ w (.cells #[.slice va t1.length ca,.int .i64 n1,.bool o1] 24)
 have b1:=bl_newZ (w.alloc (.cells #[.slice va t1.length ca,.int .i64 n1,.bool o1] 24)) (.cells #[.slice vb t2.length cb,.int .i64 n2,.bool o2] 24)
 have HB:=hZq (below2Z b0 b1)
 have VA:=hZq ((hv1.later b0).later b1)
 have VB:=hZq ((hv2.later b0).later b1)
 have CA:=newQ w (.cells #[.slice va t1.length ca,.int .i64 n1,.bool o1] 24)
 replace CA:=upQ CA b1
 replace CA:=hZq CA
 have CB:=newQ (w.alloc (.cells #[.slice va t1.length ca,.int .i64 n1,.bool o1] 24)) (.cells #[.slice vb t2.length cb,.int .i64 n2,.bool o2] 24)
 rw [World.size_alloc] at CB
 replace CB:=hZq CB
 clear b0 b1
 clear hv1 hv2
 go_enter Tryz.func17,Tryz.ntmps17
 obtain⟨⟨CAc0,CAc1,CAc2⟩,⟨CAf0,CAf1,CAf2⟩⟩:=blk3 CA.out
 obtain⟨⟨CBc0,CBc1,CBc2⟩,⟨CBf0,CBf1,CBf2⟩⟩:=blk3 CB.out
 go_wp2_with fail
 clear CAc0 CAc1 CAc2 CAf0 CAf1 CAf2 CBc0 CBc1 CBc2 CBf0 CBf1 CBf2
 refine (tsame_eq VA.out VB.out HR).mono ?_
 rintro e w3 ⟨rfl,b3⟩
 replace CA:=hZq (upQ CA.out b3)
 replace CB:=hZq (upQ CB.out b3)
 replace VA:=hZq (VA.out.later b3)
 replace VB:=hZq (VB.out.later b3)
 replace HB:=hZq (below2Z HB.out b3)
 clear b3
 obtain⟨⟨CAc0,CAc1,CAc2⟩,⟨CAf0,CAf1,CAf2⟩⟩:=blk3 CA.out
 obtain⟨⟨CBc0,CBc1,CBc2⟩,⟨CBf0,CBf1,CBf2⟩⟩:=blk3 CB.out
 go_wp2_with fail
 clear CAc0 CAc1 CAc2 CAf0 CAf1 CAf2 CBc0 CBc1 CBc2 CBf0 CBf1 CBf2
 go_ret
 exact⟨rfl,HB.out⟩

theorem rclsame_b {w:World} {v1 v2:Value} {t1 t2:List Row} (hv1:Tab w v1 t1) (hv2:Tab w v2 t2) (n1 n2:Int) (o1 o2:Bool) (HR:Hid (tSame t1 t2=true)) (h:n1=n2) {r:Bool} (h2:(o1 == o2)=r) :
  Calls Tryz.prog 17 #[.agg #[v1,.int .i64 n1,.bool o1],.agg #[v2,.int .i64 n2,.bool o2]] w fun e w' => e=.returned (.bool r)∧Below w.heap.size w w':=by
 have g1:(n1 == n2)=true:=by rw [beq_iff_eq]; exact h
 clear h
 have g2:(o1 == o2)=r:=h2
 clear h2
 obtain⟨va,ca,rfl,-⟩:=hv1.open'
 obtain⟨vb,cb,rfl,-⟩:=hv2.open'
 have b0:=bl_newZ w (.cells #[.slice va t1.length ca,.int .i64 n1,.bool o1] 24)
 have b1:=bl_newZ (w.alloc (.cells #[.slice va t1.length ca,.int .i64 n1,.bool o1] 24)) (.cells #[.slice vb t2.length cb,.int .i64 n2,.bool o2] 24)
 have HB:=hZq (below2Z b0 b1)
 have VA:=hZq ((hv1.later b0).later b1)
 have VB:=hZq ((hv2.later b0).later b1)
 have CA:=newQ w (.cells #[.slice va t1.length ca,.int .i64 n1,.bool o1] 24)
 replace CA:=upQ CA b1
 replace CA:=hZq CA
 have CB:=newQ (w.alloc (.cells #[.slice va t1.length ca,.int .i64 n1,.bool o1] 24)) (.cells #[.slice vb t2.length cb,.int .i64 n2,.bool o2] 24)
 rw [World.size_alloc] at CB
 replace CB:=hZq CB
 clear b0 b1
 clear hv1 hv2
 go_enter Tryz.func17,Tryz.ntmps17
 obtain⟨⟨CAc0,CAc1,CAc2⟩,⟨CAf0,CAf1,CAf2⟩⟩:=blk3 CA.out
 obtain⟨⟨CBc0,CBc1,CBc2⟩,⟨CBf0,CBf1,CBf2⟩⟩:=blk3 CB.out
 go_wp2_with fail
 clear CAc0 CAc1 CAc2 CAf0 CAf1 CAf2 CBc0 CBc1 CBc2 CBf0 CBf1 CBf2
 refine (tsame_eq VA.out VB.out HR).mono ?_
 rintro e w3 ⟨rfl,b3⟩
 replace CA:=hZq (upQ CA.out b3)
 replace CB:=hZq (upQ CB.out b3)
 replace VA:=hZq (VA.out.later b3)
 replace VB:=hZq (VB.out.later b3)
 replace HB:=hZq (below2Z HB.out b3)
 clear b3
 obtain⟨⟨CAc0,CAc1,CAc2⟩,⟨CAf0,CAf1,CAf2⟩⟩:=blk3 CA.out
 obtain⟨⟨CBc0,CBc1,CBc2⟩,⟨CBf0,CBf1,CBf2⟩⟩:=blk3 CB.out
 go_wp2_with fail
 clear CAc0 CAc1 CAc2 CAf0 CAf1 CAf2 CBc0 CBc1 CBc2 CBf0 CBf1 CBf2
 go_ret
 exact⟨rfl,HB.out⟩

theorem rclsame_eq {w:World} {v1 v2:Value} {t1 t2:List Row} (hv1:Tab w v1 t1) (hv2:Tab w v2 t2) (n1 n2:Int) (o1 o2:Bool) {r:Bool} (h:Hid (clSame ⟨t1,n1,o1⟩ ⟨t2,n2,o2⟩=r)) :
  Calls Tryz.prog 17 #[.agg #[v1,.int .i64 n1,.bool o1],.agg #[v2,.int .i64 n2,.bool o2]] w fun e w' => e=.returned (.bool r)∧Below w.heap.size w w':=by
 have h:=h.out
 unfold clSame at h
 simp only at h
 cases ht:tSame t1 t2 with
 | false =>
  rw [ht,Bool.and_false,Bool.and_false] at h
  subst h
  exact rclsame_t hv1 hv2 n1 n2 o1 o2 (hZq ht)
 | true =>
  by_cases h1:n1=n2
  ·rw [ht,show decide (n1=n2)=true from decide_eq_true h1,Bool.and_true,Bool.true_and] at h
   exact rclsame_b hv1 hv2 n1 n2 o1 o2 (hZq ht) h1 h
  ·rw [show decide (n1=n2)=false from decide_eq_false h1,Bool.false_and] at h
   subst h
   exact rclsame_a hv1 hv2 n1 n2 o1 o2 (hZq ht) h1

theorem fewT_len {t:List Row} (h:fewT t=true):t.length≤1000:=by
 unfold fewT at h
 simp only [Bool.and_eq_true,decide_eq_true_eq] at h
 omega

end Go.Proofs.YtekkofldhhdpgaaGreat

end
