/-
 TEXTS OF THE PROOF, one behind the other: RosDoD.
-/
import Derived.Test.YtphfinlfabklmaaGreatB33
import Derived.Test.YtphfinlfabklmaaGreatB15

set_option maxHeartbeats 12800000
set_option maxRecDepth 100000

set_option linter.unusedVariables false

namespace Go.Proofs.YtphfinlfabklmaaGreat
open Go.RowKit

theorem rdodA {w:World} {v:Value} {l:List Ent} (hv:Ents w v l) (hs:ShortE l) (hl:l.length≤900) (u o:List UInt8) (hu:u.length≤4294967296) (ho:o.length≤4294967296) (k:Int) (hm:roMayD l=false) :
  Calls Tryz.prog 111 #[v,.int .i64 k,.string ⟨u.toArray⟩,.string ⟨o.toArray⟩] w fun e w' => ∃ v',e=.returned (.tuple #[v',.int .i64 1])∧Ents w' v' l∧Below w.heap.size w w':=by
 have HV:=hD hv
 have HM:=hD (rmay8_any hv hs (by omega) (hD hm))
 obtain⟨a,cap,rfl,hmx⟩:=hv.open'
 clear hv hs hm
 go_enter Tryz.func111,Tryz.ntmps111
 go_wp2_with fail
 refine HM.out.mono ?_
 rintro e w1 ⟨rfl,b⟩
 have HB:=hD b
 clear b
 go_wp2_with fail
 go_ret2
 exact⟨_,rfl,HV.out.later HB.out,HB.out⟩

theorem rdodB {w:World} {v:Value} {l:List Ent} (hv:Ents w v l) (hs:ShortE l) (hl:l.length≤900) (u o:List UInt8) (hu:u.length≤4294967296) (ho:o.length≤4294967296) (k:Int) (hm:roMayD l=true) (h1:idIs u=false) :
  Calls Tryz.prog 111 #[v,.int .i64 k,.string ⟨u.toArray⟩,.string ⟨o.toArray⟩] w fun e w' => ∃ v',e=.returned (.tuple #[v',.int .i64 1])∧Ents w' v' l∧Below w.heap.size w w':=by
 have HV:=hD hv
 have HM:=hD (rmay8_any hv hs (by omega) (hD hm))
 have I1:=ris_any u hu
 rw [h1] at I1
 replace I1:=hD I1
 clear h1
 obtain⟨a,cap,rfl,hmx⟩:=hv.open'
 clear hv hs hm
 go_enter Tryz.func111,Tryz.ntmps111
 go_wp2_with fail
 refine HM.out.mono ?_
 rintro e w1 ⟨rfl,b⟩
 have HB:=hD b
 clear b
 go_wp2_with fail
 refine (I1.out _).mono ?_
 rintro e w2 ⟨rfl,rfl⟩
 go_wp2_with fail
 go_ret2
 exact⟨_,rfl,HV.out.later HB.out,HB.out⟩

theorem rdodC {w:World} {v:Value} {l:List Ent} (hv:Ents w v l) (hs:ShortE l) (hl:l.length≤900) (u o:List UInt8) (hu:u.length≤4294967296) (ho:o.length≤4294967296) (k:Int) (hm:roMayD l=true) (h1:idIs u=true) (h2:idIs o=false) :
  Calls Tryz.prog 111 #[v,.int .i64 k,.string ⟨u.toArray⟩,.string ⟨o.toArray⟩] w fun e w' => ∃ v',e=.returned (.tuple #[v',.int .i64 1])∧Ents w' v' l∧Below w.heap.size w w':=by
 have HV:=hD hv
 have HM:=hD (rmay8_any hv hs (by omega) (hD hm))
 have I1:=ris_any u hu
 rw [h1] at I1
 replace I1:=hD I1
 have I2:=ris_any o ho
 rw [h2] at I2
 replace I2:=hD I2
 clear h1 h2
 obtain⟨a,cap,rfl,hmx⟩:=hv.open'
 clear hv hs hm
 go_enter Tryz.func111,Tryz.ntmps111
 go_wp2_with fail
 refine HM.out.mono ?_
 rintro e w1 ⟨rfl,b⟩
 have HB:=hD b
 clear b
 go_wp2_with fail
 refine (I1.out _).mono ?_
 rintro e w2 ⟨rfl,rfl⟩
 go_wp2_with fail
 refine (I2.out _).mono ?_
 rintro e w2 ⟨rfl,rfl⟩
 go_wp2_with fail
 go_ret2
 exact⟨_,rfl,HV.out.later HB.out,HB.out⟩

theorem rdodD {w:World} {v:Value} {l:List Ent} (hv:Ents w v l) (hs:ShortE l) (hl:l.length≤900) (u o:List UInt8) (hu:u.length≤4294967296) (ho:o.length≤4294967296) (k:Int) (hm:roMayD l=true) (h1:idIs u=true) (h2:idIs o=true) (h3:(u == o)=true) :
  Calls Tryz.prog 111 #[v,.int .i64 k,.string ⟨u.toArray⟩,.string ⟨o.toArray⟩] w fun e w' => ∃ v',e=.returned (.tuple #[v',.int .i64 1])∧Ents w' v' l∧Below w.heap.size w w':=by
 have HV:=hD hv
 have HM:=hD (rmay8_any hv hs (by omega) (hD hm))
 have I1:=ris_any u hu
 rw [h1] at I1
 replace I1:=hD I1
 have I2:=ris_any o ho
 rw [h2] at I2
 replace I2:=hD I2
 clear h1 h2
 obtain⟨a,cap,rfl,hmx⟩:=hv.open'
 clear hv hs hm
 go_enter Tryz.func111,Tryz.ntmps111
 go_wp2_with fail
 refine HM.out.mono ?_
 rintro e w1 ⟨rfl,b⟩
 have HB:=hD b
 clear b
 go_wp2_with fail
 refine (I1.out _).mono ?_
 rintro e w2 ⟨rfl,rfl⟩
 go_wp2_with fail
 refine (I2.out _).mono ?_
 rintro e w2 ⟨rfl,rfl⟩
 go_wp2_with fail
 go_ret2
 exact⟨_,rfl,HV.out.later HB.out,HB.out⟩

theorem rdodE {w:World} {v:Value} {l:List Ent} (hv:Ents w v l) (hs:ShortE l) (hl:l.length≤900) (u o:List UInt8) (hu:u.length≤4294967296) (ho:o.length≤4294967296) (k:Int) (hm:roMayD l=true) (h1:idIs u=true) (h2:idIs o=true) (h3:(u == o)=false) (h4:k < 1) :
  Calls Tryz.prog 111 #[v,.int .i64 k,.string ⟨u.toArray⟩,.string ⟨o.toArray⟩] w fun e w' => ∃ v',e=.returned (.tuple #[v',.int .i64 1])∧Ents w' v' l∧Below w.heap.size w w':=by
 have HV:=hD hv
 have HM:=hD (rmay8_any hv hs (by omega) (hD hm))
 have I1:=ris_any u hu
 rw [h1] at I1
 replace I1:=hD I1
 have I2:=ris_any o ho
 rw [h2] at I2
 replace I2:=hD I2
 have t4:decide (k < 1)=true:=by simpa using h4
 clear h1 h2 h4
 obtain⟨a,cap,rfl,hmx⟩:=hv.open'
 clear hv hs hm
 go_enter Tryz.func111,Tryz.ntmps111
 go_wp2_with fail
 refine HM.out.mono ?_
 rintro e w1 ⟨rfl,b⟩
 have HB:=hD b
 clear b
 go_wp2_with fail
 refine (I1.out _).mono ?_
 rintro e w2 ⟨rfl,rfl⟩
 go_wp2_with fail
 refine (I2.out _).mono ?_
 rintro e w2 ⟨rfl,rfl⟩
 go_wp2_with fail
 go_ret2
 exact⟨_,rfl,HV.out.later HB.out,HB.out⟩

theorem rdodF {w:World} {v:Value} {l:List Ent} (hv:Ents w v l) (hs:ShortE l) (hl:l.length≤900) (u o:List UInt8) (hu:u.length≤4294967296) (ho:o.length≤4294967296) (k:Int) (hm:roMayD l=true) (h1:idIs u=true) (h2:idIs o=true) (h3:(u == o)=false) (h4:1≤k) (h5:6 < k) :
  Calls Tryz.prog 111 #[v,.int .i64 k,.string ⟨u.toArray⟩,.string ⟨o.toArray⟩] w fun e w' => ∃ v',e=.returned (.tuple #[v',.int .i64 1])∧Ents w' v' l∧Below w.heap.size w w':=by
 have HV:=hD hv
 have HM:=hD (rmay8_any hv hs (by omega) (hD hm))
 have I1:=ris_any u hu
 rw [h1] at I1
 replace I1:=hD I1
 have I2:=ris_any o ho
 rw [h2] at I2
 replace I2:=hD I2
 have t4:decide (k < 1)=false:=by simp; omega
 have t5:decide (6 < k)=true:=by simpa using h5
 clear h1 h2 h4 h5
 obtain⟨a,cap,rfl,hmx⟩:=hv.open'
 clear hv hs hm
 go_enter Tryz.func111,Tryz.ntmps111
 go_wp2_with fail
 refine HM.out.mono ?_
 rintro e w1 ⟨rfl,b⟩
 have HB:=hD b
 clear b
 go_wp2_with fail
 refine (I1.out _).mono ?_
 rintro e w2 ⟨rfl,rfl⟩
 go_wp2_with fail
 refine (I2.out _).mono ?_
 rintro e w2 ⟨rfl,rfl⟩
 go_wp2_with fail
 go_ret2
 exact⟨_,rfl,HV.out.later HB.out,HB.out⟩

theorem rdodG {w:World} {v:Value} {l:List Ent} (hv:Ents w v l) (hs:ShortE l) (hl:l.length≤900) (u o:List UInt8) (hu:u.length≤4294967296) (ho:o.length≤4294967296) (k:Int) (hm:roMayD l=true) (h1:idIs u=true) (h2:idIs o=true) (h3:(u == o)=false) (h4:1≤k) (h5:k≤6) {i1 i2 i3 i4 i5 j1 j2 j3 j4 j5 a1 a2 a3 a4 a5 b1 b2 b3 b4 b5:Bool} {er:Nat} (hi:roGet l u o=⟨i1,i2,i3,i4,i5⟩) (hj:roGet l o u=⟨j1,j2,j3,j4,j5⟩) (hact:suAct ⟨i1,i2,i3,i4,i5⟩ ⟨j1,j2,j3,j4,j5⟩ k=(⟨a1,a2,a3,a4,a5⟩,⟨b1,b2,b3,b4,b5⟩,er)) (her:er ≠ 0) :
  Calls Tryz.prog 111 #[v,.int .i64 k,.string ⟨u.toArray⟩,.string ⟨o.toArray⟩] w fun e w' => ∃ v',e=.returned (.tuple #[v',.int .i64 (er:Int)])∧Ents w' v' l∧Below w.heap.size w w':=by
 have HV:=hD hv
 have HM:=hD (rmay8_any hv hs (by omega) (hD hm))
 have I1:=ris_any u hu
 rw [h1] at I1
 replace I1:=hD I1
 have I2:=ris_any o ho
 rw [h2] at I2
 replace I2:=hD I2
 have t4:decide (k < 1)=false:=by simp; omega
 have t5:decide (6 < k)=false:=by simp; omega
 have FI:=hD hi
 have FJ:=hD hj
 have HA:=hD (ract_eq (hD hact))
 have t9:((er:Int) != 0)=true:=by rw [bne_iff_ne]; omega
 clear her
 obtain⟨a,cap,rfl,hmx⟩:=hv.open'
 clear hv hs hm h1 h2 h4 h5 hi hj hact
 go_enter Tryz.func111,Tryz.ntmps111
 go_wp2_with fail
 refine HM.out.mono ?_
 rintro e w1 ⟨rfl,b⟩
 have HB:=hD b
 clear b
 go_wp2_with fail
 refine (I1.out _).mono ?_
 rintro e w2 ⟨rfl,rfl⟩
 go_wp2_with fail
 refine (I2.out _).mono ?_
 rintro e w2 ⟨rfl,rfl⟩
 go_wp2_with fail
 refine (rget8_eq (HV.out.later HB.out) u o FI).mono ?_
 rintro e w2 ⟨rfl,b⟩
 replace HB:=hD (below2S HB.out b)
 clear b
 go_wp2_with fail
 refine (rget8_eq (HV.out.later HB.out) o u FJ).mono ?_
 rintro e w3 ⟨rfl,b⟩
 replace HB:=hD (below2S HB.out b)
 clear b
 go_wp2_with fail
 refine (HA.out _).mono ?_
 rintro e w4 ⟨rfl,b⟩
 have bb:=below2S b (below2S (bl_newZ w4 (.cells #[.bool a1,.bool a2,.bool a3,.bool a4,.bool a5] 115)) (bl_newZ _ (.cells #[.bool b1,.bool b2,.bool b3,.bool b4,.bool b5] 115)))
 have KA:=hD ((itAt_made w4 ⟨a1,a2,a3,a4,a5⟩ w4.heap.size rfl).later (bl_newZ _ (.cells #[.bool b1,.bool b2,.bool b3,.bool b4,.bool b5] 115)))
 have KB:=hD (itAt_made (w4.alloc (.cells #[.bool a1,.bool a2,.bool a3,.bool a4,.bool a5] 115)) ⟨b1,b2,b3,b4,b5⟩ (w4.heap.size+1) (by simp))
 replace HB:=hD (below2S HB.out bb)
 clear b bb
 obtain⟨c0,c1,c2,c3,c4⟩:=KA.out
 obtain⟨d0,d1,d2,d3,d4⟩:=KB.out
 go_wp2_with fail
 go_ret2
 exact⟨_,rfl,HV.out.later HB.out,HB.out⟩

theorem rdodH1 {w:World} {v:Value} {l:List Ent} (hv:Ents w v l) (hs:ShortE l) (hl:l.length≤900) (u o:List UInt8) (hu:u.length≤4294967296) (ho:o.length≤4294967296) (k:Int) (hm:roMayD l=true) (h1:idIs u=true) (h2:idIs o=true) (h3:(u == o)=false) (h4:1≤k) (h5:k≤6) {i1 i2 i3 i4 i5 j1 j2 j3 j4 j5 a1 a2 a3 a4 a5 b1 b2 b3 b4 b5:Bool} (hi:roGet l u o=⟨i1,i2,i3,i4,i5⟩) (hj:roGet l o u=⟨j1,j2,j3,j4,j5⟩) (hact:suAct ⟨i1,i2,i3,i4,i5⟩ ⟨j1,j2,j3,j4,j5⟩ k=(⟨a1,a2,a3,a4,a5⟩,⟨b1,b2,b3,b4,b5⟩,0)) (hq:roHas l u o=false) (gu:decide (16≤(roOf l u).length)=true) :
  Calls Tryz.prog 111 #[v,.int .i64 k,.string ⟨u.toArray⟩,.string ⟨o.toArray⟩] w fun e w' => ∃ v',e=.returned (.tuple #[v',.int .i64 5])∧Ents w' v' l∧Below w.heap.size w w':=by
 have HV:=hD hv
 have HM:=hD (rmay8_any hv hs (by omega) (hD hm))
 have I1:=ris_any u hu
 rw [h1] at I1
 replace I1:=hD I1
 have I2:=ris_any o ho
 rw [h2] at I2
 replace I2:=hD I2
 have t4:decide (k < 1)=false:=by simp; omega
 have t5:decide (6 < k)=false:=by simp; omega
 have FI:=hD hi
 have FJ:=hD hj
 have HA:=hD (ract_eq (hD hact))
 have FQ:=hD hq
 clear hq
 have tgu:decide ((16:Int)≤((roOf l u).length:Int))=true:=by rw [← gu]; congr 1; apply propext; omega
 clear gu
 obtain⟨a,cap,rfl,hmx⟩:=hv.open'
 clear hv hs hm h1 h2 h4 h5 hi hj hact
 go_enter Tryz.func111,Tryz.ntmps111
 go_wp2_with fail
 refine HM.out.mono ?_
 rintro e w1 ⟨rfl,b⟩
 have HB:=hD b
 clear b
 go_wp2_with fail
 refine (I1.out _).mono ?_
 rintro e w2 ⟨rfl,rfl⟩
 go_wp2_with fail
 refine (I2.out _).mono ?_
 rintro e w2 ⟨rfl,rfl⟩
 go_wp2_with fail
 refine (rget8_eq (HV.out.later HB.out) u o FI).mono ?_
 rintro e w2 ⟨rfl,b⟩
 replace HB:=hD (below2S HB.out b)
 clear b
 go_wp2_with fail
 refine (rget8_eq (HV.out.later HB.out) o u FJ).mono ?_
 rintro e w3 ⟨rfl,b⟩
 replace HB:=hD (below2S HB.out b)
 clear b
 go_wp2_with fail
 refine (HA.out _).mono ?_
 rintro e w4 ⟨rfl,b⟩
 have bb:=below2S b (below2S (bl_newZ w4 (.cells #[.bool a1,.bool a2,.bool a3,.bool a4,.bool a5] 115)) (bl_newZ _ (.cells #[.bool b1,.bool b2,.bool b3,.bool b4,.bool b5] 115)))
 have KA:=hD ((itAt_made w4 ⟨a1,a2,a3,a4,a5⟩ w4.heap.size rfl).later (bl_newZ _ (.cells #[.bool b1,.bool b2,.bool b3,.bool b4,.bool b5] 115)))
 have KB:=hD (itAt_made (w4.alloc (.cells #[.bool a1,.bool a2,.bool a3,.bool a4,.bool a5] 115)) ⟨b1,b2,b3,b4,b5⟩ (w4.heap.size+1) (by simp))
 replace HB:=hD (below2S HB.out bb)
 clear b bb
 obtain⟨c0,c1,c2,c3,c4⟩:=KA.out
 obtain⟨d0,d1,d2,d3,d4⟩:=KB.out
 go_wp2_with fail
 generalize hW:(w4.alloc (.cells #[.bool a1,.bool a2,.bool a3,.bool a4,.bool a5] 115)).alloc (.cells #[.bool b1,.bool b2,.bool b3,.bool b4,.bool b5] 115)=w5 at HB KA KB c0 c1 c2 c3 c4 d0 d1 d2 d3 d4 ⊢
 clear hW c0 c1 c2 c3 c4 d0 d1 d2 d3 d4
 have RH:=rhas_any (HV.out.later HB.out) u o
 rw [FQ.out] at RH
 refine RH.mono ?_
 rintro e w6 ⟨rfl,rfl⟩
 clear RH
 go_wp2_with fail
 refine (rof_any (HV.out.later HB.out) (by omega) u).mono ?_
 rintro e w7 ⟨u7,rfl,hot,b⟩
 obtain⟨a7',k7',rfl⟩:=ownT_slice hot
 replace HB:=hD (below2S HB.out b)
 replace KA:=hD (KA.out.later b)
 replace KB:=hD (KB.out.later b)
 clear b hot
 go_wp2_with fail
 go_ret2
 exact⟨_,rfl,HV.out.later HB.out,HB.out⟩

theorem rdodH2 {w:World} {v:Value} {l:List Ent} (hv:Ents w v l) (hs:ShortE l) (hl:l.length≤900) (u o:List UInt8) (hu:u.length≤4294967296) (ho:o.length≤4294967296) (k:Int) (hm:roMayD l=true) (h1:idIs u=true) (h2:idIs o=true) (h3:(u == o)=false) (h4:1≤k) (h5:k≤6) {i1 i2 i3 i4 i5 j1 j2 j3 j4 j5 a1 a2 a3 a4 a5 b1 b2 b3 b4 b5:Bool} (hi:roGet l u o=⟨i1,i2,i3,i4,i5⟩) (hj:roGet l o u=⟨j1,j2,j3,j4,j5⟩) (hact:suAct ⟨i1,i2,i3,i4,i5⟩ ⟨j1,j2,j3,j4,j5⟩ k=(⟨a1,a2,a3,a4,a5⟩,⟨b1,b2,b3,b4,b5⟩,0)) (hq:roHas l u o=false) (gu:decide (16≤(roOf l u).length)=false) (go:decide (16≤(roOf l o).length)=true) :
  Calls Tryz.prog 111 #[v,.int .i64 k,.string ⟨u.toArray⟩,.string ⟨o.toArray⟩] w fun e w' => ∃ v',e=.returned (.tuple #[v',.int .i64 5])∧Ents w' v' l∧Below w.heap.size w w':=by
 have HV:=hD hv
 have HM:=hD (rmay8_any hv hs (by omega) (hD hm))
 have I1:=ris_any u hu
 rw [h1] at I1
 replace I1:=hD I1
 have I2:=ris_any o ho
 rw [h2] at I2
 replace I2:=hD I2
 have t4:decide (k < 1)=false:=by simp; omega
 have t5:decide (6 < k)=false:=by simp; omega
 have FI:=hD hi
 have FJ:=hD hj
 have HA:=hD (ract_eq (hD hact))
 have FQ:=hD hq
 clear hq
 have tgu:decide ((16:Int)≤((roOf l u).length:Int))=false:=by rw [← gu]; congr 1; apply propext; omega
 have tgo:decide ((16:Int)≤((roOf l o).length:Int))=true:=by rw [← go]; congr 1; apply propext; omega
 clear gu go
 obtain⟨a,cap,rfl,hmx⟩:=hv.open'
 clear hv hs hm h1 h2 h4 h5 hi hj hact
 go_enter Tryz.func111,Tryz.ntmps111
 go_wp2_with fail
 refine HM.out.mono ?_
 rintro e w1 ⟨rfl,b⟩
 have HB:=hD b
 clear b
 go_wp2_with fail
 refine (I1.out _).mono ?_
 rintro e w2 ⟨rfl,rfl⟩
 go_wp2_with fail
 refine (I2.out _).mono ?_
 rintro e w2 ⟨rfl,rfl⟩
 go_wp2_with fail
 refine (rget8_eq (HV.out.later HB.out) u o FI).mono ?_
 rintro e w2 ⟨rfl,b⟩
 replace HB:=hD (below2S HB.out b)
 clear b
 go_wp2_with fail
 refine (rget8_eq (HV.out.later HB.out) o u FJ).mono ?_
 rintro e w3 ⟨rfl,b⟩
 replace HB:=hD (below2S HB.out b)
 clear b
 go_wp2_with fail
 refine (HA.out _).mono ?_
 rintro e w4 ⟨rfl,b⟩
 have bb:=below2S b (below2S (bl_newZ w4 (.cells #[.bool a1,.bool a2,.bool a3,.bool a4,.bool a5] 115)) (bl_newZ _ (.cells #[.bool b1,.bool b2,.bool b3,.bool b4,.bool b5] 115)))
 have KA:=hD ((itAt_made w4 ⟨a1,a2,a3,a4,a5⟩ w4.heap.size rfl).later (bl_newZ _ (.cells #[.bool b1,.bool b2,.bool b3,.bool b4,.bool b5] 115)))
 have KB:=hD (itAt_made (w4.alloc (.cells #[.bool a1,.bool a2,.bool a3,.bool a4,.bool a5] 115)) ⟨b1,b2,b3,b4,b5⟩ (w4.heap.size+1) (by simp))
 replace HB:=hD (below2S HB.out bb)
 clear b bb
 obtain⟨c0,c1,c2,c3,c4⟩:=KA.out
 obtain⟨d0,d1,d2,d3,d4⟩:=KB.out
 go_wp2_with fail
 generalize hW:(w4.alloc (.cells #[.bool a1,.bool a2,.bool a3,.bool a4,.bool a5] 115)).alloc (.cells #[.bool b1,.bool b2,.bool b3,.bool b4,.bool b5] 115)=w5 at HB KA KB c0 c1 c2 c3 c4 d0 d1 d2 d3 d4 ⊢
 clear hW c0 c1 c2 c3 c4 d0 d1 d2 d3 d4
 have RH:=rhas_any (HV.out.later HB.out) u o
 rw [FQ.out] at RH
 refine RH.mono ?_
 rintro e w6 ⟨rfl,rfl⟩
 clear RH
 go_wp2_with fail
 refine (rof_any (HV.out.later HB.out) (by omega) u).mono ?_
 rintro e w7 ⟨u7,rfl,hot,b⟩
 obtain⟨a7',k7',rfl⟩:=ownT_slice hot
 replace HB:=hD (below2S HB.out b)
 replace KA:=hD (KA.out.later b)
 replace KB:=hD (KB.out.later b)
 clear b hot
 go_wp2_with fail
 refine (rof_any (HV.out.later HB.out) (by omega) o).mono ?_
 rintro e w8 ⟨u8,rfl,hot,b⟩
 obtain⟨a8',k8',rfl⟩:=ownT_slice hot
 replace HB:=hD (below2S HB.out b)
 replace KA:=hD (KA.out.later b)
 replace KB:=hD (KB.out.later b)
 clear b hot
 go_wp2_with fail
 go_ret2
 exact⟨_,rfl,HV.out.later HB.out,HB.out⟩

theorem rdodI1 {w:World} {v:Value} {l:List Ent} (hv:Ents w v l) (hs:ShortE l) (hl:l.length≤900) (u o:List UInt8) (hu:u.length≤4294967296) (ho:o.length≤4294967296) (k:Int) (hm:roMayD l=true) (h1:idIs u=true) (h2:idIs o=true) (h3:(u == o)=false) (h4:1≤k) (h5:k≤6) {i1 i2 i3 i4 i5 j1 j2 j3 j4 j5 a1 a2 a3 a4 a5 b1 b2 b3 b4 b5:Bool} (hi:roGet l u o=⟨i1,i2,i3,i4,i5⟩) (hj:roGet l o u=⟨j1,j2,j3,j4,j5⟩) (hact:suAct ⟨i1,i2,i3,i4,i5⟩ ⟨j1,j2,j3,j4,j5⟩ k=(⟨a1,a2,a3,a4,a5⟩,⟨b1,b2,b3,b4,b5⟩,0)) (hq:roHas l u o=true) (ga:suEmpty ⟨a1,a2,a3,a4,a5⟩=false) :
  Calls Tryz.prog 111 #[v,.int .i64 k,.string ⟨u.toArray⟩,.string ⟨o.toArray⟩] w fun e w' => ∃ v',e=.returned (.tuple #[v',.int .i64 0])∧Ents w' v' (rsO entLt entIs ⟨o,u,⟨b1,b2,b3,b4,b5⟩⟩ (rsO entLt entIs ⟨u,o,⟨a1,a2,a3,a4,a5⟩⟩ l (!true)) (!true))∧Below w.heap.size w w':=by
 have HV:=hD hv
 have HM:=hD (rmay8_any hv hs (by omega) (hD hm))
 have I1:=ris_any u hu
 rw [h1] at I1
 replace I1:=hD I1
 have I2:=ris_any o ho
 rw [h2] at I2
 replace I2:=hD I2
 have t4:decide (k < 1)=false:=by simp; omega
 have t5:decide (6 < k)=false:=by simp; omega
 have FI:=hD hi
 have FJ:=hD hj
 have HA:=hD (ract_eq (hD hact))
 have FQ:=hD hq
 clear hq
 have GA:=hD (rsempty_eq a1 a2 a3 a4 a5 ga)
 clear ga
 obtain⟨a,cap,rfl,hmx⟩:=hv.open'
 clear hv hs hm h1 h2 h4 h5 hi hj hact
 go_enter Tryz.func111,Tryz.ntmps111
 go_wp2_with fail
 refine HM.out.mono ?_
 rintro e w1 ⟨rfl,b⟩
 have HB:=hD b
 clear b
 go_wp2_with fail
 refine (I1.out _).mono ?_
 rintro e w2 ⟨rfl,rfl⟩
 go_wp2_with fail
 refine (I2.out _).mono ?_
 rintro e w2 ⟨rfl,rfl⟩
 go_wp2_with fail
 refine (rget8_eq (HV.out.later HB.out) u o FI).mono ?_
 rintro e w2 ⟨rfl,b⟩
 replace HB:=hD (below2S HB.out b)
 clear b
 go_wp2_with fail
 refine (rget8_eq (HV.out.later HB.out) o u FJ).mono ?_
 rintro e w3 ⟨rfl,b⟩
 replace HB:=hD (below2S HB.out b)
 clear b
 go_wp2_with fail
 refine (HA.out _).mono ?_
 rintro e w4 ⟨rfl,b⟩
 have bb:=below2S b (below2S (bl_newZ w4 (.cells #[.bool a1,.bool a2,.bool a3,.bool a4,.bool a5] 115)) (bl_newZ _ (.cells #[.bool b1,.bool b2,.bool b3,.bool b4,.bool b5] 115)))
 have KA:=hD ((itAt_made w4 ⟨a1,a2,a3,a4,a5⟩ w4.heap.size rfl).later (bl_newZ _ (.cells #[.bool b1,.bool b2,.bool b3,.bool b4,.bool b5] 115)))
 have KB:=hD (itAt_made (w4.alloc (.cells #[.bool a1,.bool a2,.bool a3,.bool a4,.bool a5] 115)) ⟨b1,b2,b3,b4,b5⟩ (w4.heap.size+1) (by simp))
 replace HB:=hD (below2S HB.out bb)
 clear b bb
 obtain⟨c0,c1,c2,c3,c4⟩:=KA.out
 obtain⟨d0,d1,d2,d3,d4⟩:=KB.out
 go_wp2_with fail
 generalize hW:(w4.alloc (.cells #[.bool a1,.bool a2,.bool a3,.bool a4,.bool a5] 115)).alloc (.cells #[.bool b1,.bool b2,.bool b3,.bool b4,.bool b5] 115)=w5 at HB KA KB c0 c1 c2 c3 c4 d0 d1 d2 d3 d4 ⊢
 clear hW c0 c1 c2 c3 c4 d0 d1 d2 d3 d4
 have RH:=rhas_any (HV.out.later HB.out) u o
 rw [FQ.out] at RH
 obtain⟨c0,c1,c2,c3,c4⟩:=KA.out
 obtain⟨d0,d1,d2,d3,d4⟩:=KB.out
 refine RH.mono ?_
 rintro e w6 ⟨rfl,rfl⟩
 clear RH
 go_wp2_with fail
 clear c0 c1 c2 c3 c4 d0 d1 d2 d3 d4
 refine (GA.out _).mono ?_
 rintro e w9 ⟨rfl,b⟩
 replace HB:=hD (below2S HB.out b)
 replace KA:=hD (KA.out.later b)
 replace KB:=hD (KB.out.later b)
 clear b
 obtain⟨c0,c1,c2,c3,c4⟩:=KA.out
 obtain⟨d0,d1,d2,d3,d4⟩:=KB.out
 go_wp2_with fail
 clear c0 c1 c2 c3 c4 d0 d1 d2 d3 d4
 refine (rset8_any (HV.out.later HB.out) (by omega) u o a1 a2 a3 a4 a5 true).mono ?_
 rintro e w11 ⟨y,rfl,hy,b⟩
 replace HB:=hD (below2S HB.out b)
 replace KB:=hD (KB.out.later b)
 have YE:=hD (hy.rd entOK).ents
 have hyl:=rsO_len ⟨u,o,⟨a1,a2,a3,a4,a5⟩⟩ l (!true)
 obtain⟨ya,yc,ey,_⟩:=YE.out.open'
 subst ey
 clear b hy
 obtain⟨d0,d1,d2,d3,d4⟩:=KB.out
 go_wp2_with fail
 refine (rset8_any YE.out (by omega) o u b1 b2 b3 b4 b5 true).mono ?_
 rintro e w12 ⟨z,rfl,hz,b⟩
 replace HB:=hD (below2S HB.out b)
 have ZE:=hD (hz.rd entOK).ents
 clear b hz
 go_wp2_with fail
 go_ret2
 exact⟨_,rfl,ZE.out,HB.out⟩

theorem rdodI2 {w:World} {v:Value} {l:List Ent} (hv:Ents w v l) (hs:ShortE l) (hl:l.length≤900) (u o:List UInt8) (hu:u.length≤4294967296) (ho:o.length≤4294967296) (k:Int) (hm:roMayD l=true) (h1:idIs u=true) (h2:idIs o=true) (h3:(u == o)=false) (h4:1≤k) (h5:k≤6) {i1 i2 i3 i4 i5 j1 j2 j3 j4 j5 a1 a2 a3 a4 a5 b1 b2 b3 b4 b5:Bool} (hi:roGet l u o=⟨i1,i2,i3,i4,i5⟩) (hj:roGet l o u=⟨j1,j2,j3,j4,j5⟩) (hact:suAct ⟨i1,i2,i3,i4,i5⟩ ⟨j1,j2,j3,j4,j5⟩ k=(⟨a1,a2,a3,a4,a5⟩,⟨b1,b2,b3,b4,b5⟩,0)) (hq:roHas l u o=true) (ga:suEmpty ⟨a1,a2,a3,a4,a5⟩=true) (gb:suEmpty ⟨b1,b2,b3,b4,b5⟩=false) :
  Calls Tryz.prog 111 #[v,.int .i64 k,.string ⟨u.toArray⟩,.string ⟨o.toArray⟩] w fun e w' => ∃ v',e=.returned (.tuple #[v',.int .i64 0])∧Ents w' v' (rsO entLt entIs ⟨o,u,⟨b1,b2,b3,b4,b5⟩⟩ (rsO entLt entIs ⟨u,o,⟨a1,a2,a3,a4,a5⟩⟩ l (!true)) (!true))∧Below w.heap.size w w':=by
 have HV:=hD hv
 have HM:=hD (rmay8_any hv hs (by omega) (hD hm))
 have I1:=ris_any u hu
 rw [h1] at I1
 replace I1:=hD I1
 have I2:=ris_any o ho
 rw [h2] at I2
 replace I2:=hD I2
 have t4:decide (k < 1)=false:=by simp; omega
 have t5:decide (6 < k)=false:=by simp; omega
 have FI:=hD hi
 have FJ:=hD hj
 have HA:=hD (ract_eq (hD hact))
 have FQ:=hD hq
 clear hq
 have GA:=hD (rsempty_eq a1 a2 a3 a4 a5 ga)
 have GB:=hD (rsempty_eq b1 b2 b3 b4 b5 gb)
 clear ga gb
 obtain⟨a,cap,rfl,hmx⟩:=hv.open'
 clear hv hs hm h1 h2 h4 h5 hi hj hact
 go_enter Tryz.func111,Tryz.ntmps111
 go_wp2_with fail
 refine HM.out.mono ?_
 rintro e w1 ⟨rfl,b⟩
 have HB:=hD b
 clear b
 go_wp2_with fail
 refine (I1.out _).mono ?_
 rintro e w2 ⟨rfl,rfl⟩
 go_wp2_with fail
 refine (I2.out _).mono ?_
 rintro e w2 ⟨rfl,rfl⟩
 go_wp2_with fail
 refine (rget8_eq (HV.out.later HB.out) u o FI).mono ?_
 rintro e w2 ⟨rfl,b⟩
 replace HB:=hD (below2S HB.out b)
 clear b
 go_wp2_with fail
 refine (rget8_eq (HV.out.later HB.out) o u FJ).mono ?_
 rintro e w3 ⟨rfl,b⟩
 replace HB:=hD (below2S HB.out b)
 clear b
 go_wp2_with fail
 refine (HA.out _).mono ?_
 rintro e w4 ⟨rfl,b⟩
 have bb:=below2S b (below2S (bl_newZ w4 (.cells #[.bool a1,.bool a2,.bool a3,.bool a4,.bool a5] 115)) (bl_newZ _ (.cells #[.bool b1,.bool b2,.bool b3,.bool b4,.bool b5] 115)))
 have KA:=hD ((itAt_made w4 ⟨a1,a2,a3,a4,a5⟩ w4.heap.size rfl).later (bl_newZ _ (.cells #[.bool b1,.bool b2,.bool b3,.bool b4,.bool b5] 115)))
 have KB:=hD (itAt_made (w4.alloc (.cells #[.bool a1,.bool a2,.bool a3,.bool a4,.bool a5] 115)) ⟨b1,b2,b3,b4,b5⟩ (w4.heap.size+1) (by simp))
 replace HB:=hD (below2S HB.out bb)
 clear b bb
 obtain⟨c0,c1,c2,c3,c4⟩:=KA.out
 obtain⟨d0,d1,d2,d3,d4⟩:=KB.out
 go_wp2_with fail
 generalize hW:(w4.alloc (.cells #[.bool a1,.bool a2,.bool a3,.bool a4,.bool a5] 115)).alloc (.cells #[.bool b1,.bool b2,.bool b3,.bool b4,.bool b5] 115)=w5 at HB KA KB c0 c1 c2 c3 c4 d0 d1 d2 d3 d4 ⊢
 clear hW c0 c1 c2 c3 c4 d0 d1 d2 d3 d4
 have RH:=rhas_any (HV.out.later HB.out) u o
 rw [FQ.out] at RH
 obtain⟨c0,c1,c2,c3,c4⟩:=KA.out
 obtain⟨d0,d1,d2,d3,d4⟩:=KB.out
 refine RH.mono ?_
 rintro e w6 ⟨rfl,rfl⟩
 clear RH
 go_wp2_with fail
 clear c0 c1 c2 c3 c4 d0 d1 d2 d3 d4
 refine (GA.out _).mono ?_
 rintro e w9 ⟨rfl,b⟩
 replace HB:=hD (below2S HB.out b)
 replace KA:=hD (KA.out.later b)
 replace KB:=hD (KB.out.later b)
 clear b
 obtain⟨c0,c1,c2,c3,c4⟩:=KA.out
 obtain⟨d0,d1,d2,d3,d4⟩:=KB.out
 go_wp2_with fail
 clear c0 c1 c2 c3 c4 d0 d1 d2 d3 d4
 refine (GB.out _).mono ?_
 rintro e w10 ⟨rfl,b⟩
 replace HB:=hD (below2S HB.out b)
 replace KA:=hD (KA.out.later b)
 replace KB:=hD (KB.out.later b)
 clear b
 obtain⟨c0,c1,c2,c3,c4⟩:=KA.out
 obtain⟨d0,d1,d2,d3,d4⟩:=KB.out
 go_wp2_with fail
 clear c0 c1 c2 c3 c4 d0 d1 d2 d3 d4
 refine (rset8_any (HV.out.later HB.out) (by omega) u o a1 a2 a3 a4 a5 true).mono ?_
 rintro e w11 ⟨y,rfl,hy,b⟩
 replace HB:=hD (below2S HB.out b)
 replace KB:=hD (KB.out.later b)
 have YE:=hD (hy.rd entOK).ents
 have hyl:=rsO_len ⟨u,o,⟨a1,a2,a3,a4,a5⟩⟩ l (!true)
 obtain⟨ya,yc,ey,_⟩:=YE.out.open'
 subst ey
 clear b hy
 obtain⟨d0,d1,d2,d3,d4⟩:=KB.out
 go_wp2_with fail
 refine (rset8_any YE.out (by omega) o u b1 b2 b3 b4 b5 true).mono ?_
 rintro e w12 ⟨z,rfl,hz,b⟩
 replace HB:=hD (below2S HB.out b)
 have ZE:=hD (hz.rd entOK).ents
 clear b hz
 go_wp2_with fail
 go_ret2
 exact⟨_,rfl,ZE.out,HB.out⟩

theorem rdodI3 {w:World} {v:Value} {l:List Ent} (hv:Ents w v l) (hs:ShortE l) (hl:l.length≤900) (u o:List UInt8) (hu:u.length≤4294967296) (ho:o.length≤4294967296) (k:Int) (hm:roMayD l=true) (h1:idIs u=true) (h2:idIs o=true) (h3:(u == o)=false) (h4:1≤k) (h5:k≤6) {i1 i2 i3 i4 i5 j1 j2 j3 j4 j5 a1 a2 a3 a4 a5 b1 b2 b3 b4 b5:Bool} (hi:roGet l u o=⟨i1,i2,i3,i4,i5⟩) (hj:roGet l o u=⟨j1,j2,j3,j4,j5⟩) (hact:suAct ⟨i1,i2,i3,i4,i5⟩ ⟨j1,j2,j3,j4,j5⟩ k=(⟨a1,a2,a3,a4,a5⟩,⟨b1,b2,b3,b4,b5⟩,0)) (hq:roHas l u o=true) (ga:suEmpty ⟨a1,a2,a3,a4,a5⟩=true) (gb:suEmpty ⟨b1,b2,b3,b4,b5⟩=true) :
  Calls Tryz.prog 111 #[v,.int .i64 k,.string ⟨u.toArray⟩,.string ⟨o.toArray⟩] w fun e w' => ∃ v',e=.returned (.tuple #[v',.int .i64 0])∧Ents w' v' (rsO entLt entIs ⟨o,u,⟨b1,b2,b3,b4,b5⟩⟩ (rsO entLt entIs ⟨u,o,⟨a1,a2,a3,a4,a5⟩⟩ l (!false)) (!false))∧Below w.heap.size w w':=by
 have HV:=hD hv
 have HM:=hD (rmay8_any hv hs (by omega) (hD hm))
 have I1:=ris_any u hu
 rw [h1] at I1
 replace I1:=hD I1
 have I2:=ris_any o ho
 rw [h2] at I2
 replace I2:=hD I2
 have t4:decide (k < 1)=false:=by simp; omega
 have t5:decide (6 < k)=false:=by simp; omega
 have FI:=hD hi
 have FJ:=hD hj
 have HA:=hD (ract_eq (hD hact))
 have FQ:=hD hq
 clear hq
 have GA:=hD (rsempty_eq a1 a2 a3 a4 a5 ga)
 have GB:=hD (rsempty_eq b1 b2 b3 b4 b5 gb)
 clear ga gb
 obtain⟨a,cap,rfl,hmx⟩:=hv.open'
 clear hv hs hm h1 h2 h4 h5 hi hj hact
 go_enter Tryz.func111,Tryz.ntmps111
 go_wp2_with fail
 refine HM.out.mono ?_
 rintro e w1 ⟨rfl,b⟩
 have HB:=hD b
 clear b
 go_wp2_with fail
 refine (I1.out _).mono ?_
 rintro e w2 ⟨rfl,rfl⟩
 go_wp2_with fail
 refine (I2.out _).mono ?_
 rintro e w2 ⟨rfl,rfl⟩
 go_wp2_with fail
 refine (rget8_eq (HV.out.later HB.out) u o FI).mono ?_
 rintro e w2 ⟨rfl,b⟩
 replace HB:=hD (below2S HB.out b)
 clear b
 go_wp2_with fail
 refine (rget8_eq (HV.out.later HB.out) o u FJ).mono ?_
 rintro e w3 ⟨rfl,b⟩
 replace HB:=hD (below2S HB.out b)
 clear b
 go_wp2_with fail
 refine (HA.out _).mono ?_
 rintro e w4 ⟨rfl,b⟩
 have bb:=below2S b (below2S (bl_newZ w4 (.cells #[.bool a1,.bool a2,.bool a3,.bool a4,.bool a5] 115)) (bl_newZ _ (.cells #[.bool b1,.bool b2,.bool b3,.bool b4,.bool b5] 115)))
 have KA:=hD ((itAt_made w4 ⟨a1,a2,a3,a4,a5⟩ w4.heap.size rfl).later (bl_newZ _ (.cells #[.bool b1,.bool b2,.bool b3,.bool b4,.bool b5] 115)))
 have KB:=hD (itAt_made (w4.alloc (.cells #[.bool a1,.bool a2,.bool a3,.bool a4,.bool a5] 115)) ⟨b1,b2,b3,b4,b5⟩ (w4.heap.size+1) (by simp))
 replace HB:=hD (below2S HB.out bb)
 clear b bb
 obtain⟨c0,c1,c2,c3,c4⟩:=KA.out
 obtain⟨d0,d1,d2,d3,d4⟩:=KB.out
 go_wp2_with fail
 generalize hW:(w4.alloc (.cells #[.bool a1,.bool a2,.bool a3,.bool a4,.bool a5] 115)).alloc (.cells #[.bool b1,.bool b2,.bool b3,.bool b4,.bool b5] 115)=w5 at HB KA KB c0 c1 c2 c3 c4 d0 d1 d2 d3 d4 ⊢
 clear hW c0 c1 c2 c3 c4 d0 d1 d2 d3 d4
 have RH:=rhas_any (HV.out.later HB.out) u o
 rw [FQ.out] at RH
 obtain⟨c0,c1,c2,c3,c4⟩:=KA.out
 obtain⟨d0,d1,d2,d3,d4⟩:=KB.out
 refine RH.mono ?_
 rintro e w6 ⟨rfl,rfl⟩
 clear RH
 go_wp2_with fail
 clear c0 c1 c2 c3 c4 d0 d1 d2 d3 d4
 refine (GA.out _).mono ?_
 rintro e w9 ⟨rfl,b⟩
 replace HB:=hD (below2S HB.out b)
 replace KA:=hD (KA.out.later b)
 replace KB:=hD (KB.out.later b)
 clear b
 obtain⟨c0,c1,c2,c3,c4⟩:=KA.out
 obtain⟨d0,d1,d2,d3,d4⟩:=KB.out
 go_wp2_with fail
 clear c0 c1 c2 c3 c4 d0 d1 d2 d3 d4
 refine (GB.out _).mono ?_
 rintro e w10 ⟨rfl,b⟩
 replace HB:=hD (below2S HB.out b)
 replace KA:=hD (KA.out.later b)
 replace KB:=hD (KB.out.later b)
 clear b
 obtain⟨c0,c1,c2,c3,c4⟩:=KA.out
 obtain⟨d0,d1,d2,d3,d4⟩:=KB.out
 go_wp2_with fail
 clear c0 c1 c2 c3 c4 d0 d1 d2 d3 d4
 refine (rset8_any (HV.out.later HB.out) (by omega) u o a1 a2 a3 a4 a5 false).mono ?_
 rintro e w11 ⟨y,rfl,hy,b⟩
 replace HB:=hD (below2S HB.out b)
 replace KB:=hD (KB.out.later b)
 have YE:=hD (hy.rd entOK).ents
 have hyl:=rsO_len ⟨u,o,⟨a1,a2,a3,a4,a5⟩⟩ l (!false)
 obtain⟨ya,yc,ey,_⟩:=YE.out.open'
 subst ey
 clear b hy
 obtain⟨d0,d1,d2,d3,d4⟩:=KB.out
 go_wp2_with fail
 refine (rset8_any YE.out (by omega) o u b1 b2 b3 b4 b5 false).mono ?_
 rintro e w12 ⟨z,rfl,hz,b⟩
 replace HB:=hD (below2S HB.out b)
 have ZE:=hD (hz.rd entOK).ents
 clear b hz
 go_wp2_with fail
 go_ret2
 exact⟨_,rfl,ZE.out,HB.out⟩

theorem rdodJ1 {w:World} {v:Value} {l:List Ent} (hv:Ents w v l) (hs:ShortE l) (hl:l.length≤900) (u o:List UInt8) (hu:u.length≤4294967296) (ho:o.length≤4294967296) (k:Int) (hm:roMayD l=true) (h1:idIs u=true) (h2:idIs o=true) (h3:(u == o)=false) (h4:1≤k) (h5:k≤6) {i1 i2 i3 i4 i5 j1 j2 j3 j4 j5 a1 a2 a3 a4 a5 b1 b2 b3 b4 b5:Bool} (hi:roGet l u o=⟨i1,i2,i3,i4,i5⟩) (hj:roGet l o u=⟨j1,j2,j3,j4,j5⟩) (hact:suAct ⟨i1,i2,i3,i4,i5⟩ ⟨j1,j2,j3,j4,j5⟩ k=(⟨a1,a2,a3,a4,a5⟩,⟨b1,b2,b3,b4,b5⟩,0)) (hq:roHas l u o=false) (gu:decide (16≤(roOf l u).length)=false) (go:decide (16≤(roOf l o).length)=false) (ga:suEmpty ⟨a1,a2,a3,a4,a5⟩=false) :
  Calls Tryz.prog 111 #[v,.int .i64 k,.string ⟨u.toArray⟩,.string ⟨o.toArray⟩] w fun e w' => ∃ v',e=.returned (.tuple #[v',.int .i64 0])∧Ents w' v' (rsO entLt entIs ⟨o,u,⟨b1,b2,b3,b4,b5⟩⟩ (rsO entLt entIs ⟨u,o,⟨a1,a2,a3,a4,a5⟩⟩ l (!true)) (!true))∧Below w.heap.size w w':=by
 have HV:=hD hv
 have HM:=hD (rmay8_any hv hs (by omega) (hD hm))
 have I1:=ris_any u hu
 rw [h1] at I1
 replace I1:=hD I1
 have I2:=ris_any o ho
 rw [h2] at I2
 replace I2:=hD I2
 have t4:decide (k < 1)=false:=by simp; omega
 have t5:decide (6 < k)=false:=by simp; omega
 have FI:=hD hi
 have FJ:=hD hj
 have HA:=hD (ract_eq (hD hact))
 have FQ:=hD hq
 clear hq
 have tgu:decide ((16:Int)≤((roOf l u).length:Int))=false:=by rw [← gu]; congr 1; apply propext; omega
 have tgo:decide ((16:Int)≤((roOf l o).length:Int))=false:=by rw [← go]; congr 1; apply propext; omega
 clear gu go
 have GA:=hD (rsempty_eq a1 a2 a3 a4 a5 ga)
 clear ga
 obtain⟨a,cap,rfl,hmx⟩:=hv.open'
 clear hv hs hm h1 h2 h4 h5 hi hj hact
 go_enter Tryz.func111,Tryz.ntmps111
 go_wp2_with fail
 refine HM.out.mono ?_
 rintro e w1 ⟨rfl,b⟩
 have HB:=hD b
 clear b
 go_wp2_with fail
 refine (I1.out _).mono ?_
 rintro e w2 ⟨rfl,rfl⟩
 go_wp2_with fail
 refine (I2.out _).mono ?_
 rintro e w2 ⟨rfl,rfl⟩
 go_wp2_with fail
 refine (rget8_eq (HV.out.later HB.out) u o FI).mono ?_
 rintro e w2 ⟨rfl,b⟩
 replace HB:=hD (below2S HB.out b)
 clear b
 go_wp2_with fail
 refine (rget8_eq (HV.out.later HB.out) o u FJ).mono ?_
 rintro e w3 ⟨rfl,b⟩
 replace HB:=hD (below2S HB.out b)
 clear b
 go_wp2_with fail
 refine (HA.out _).mono ?_
 rintro e w4 ⟨rfl,b⟩
 have bb:=below2S b (below2S (bl_newZ w4 (.cells #[.bool a1,.bool a2,.bool a3,.bool a4,.bool a5] 115)) (bl_newZ _ (.cells #[.bool b1,.bool b2,.bool b3,.bool b4,.bool b5] 115)))
 have KA:=hD ((itAt_made w4 ⟨a1,a2,a3,a4,a5⟩ w4.heap.size rfl).later (bl_newZ _ (.cells #[.bool b1,.bool b2,.bool b3,.bool b4,.bool b5] 115)))
 have KB:=hD (itAt_made (w4.alloc (.cells #[.bool a1,.bool a2,.bool a3,.bool a4,.bool a5] 115)) ⟨b1,b2,b3,b4,b5⟩ (w4.heap.size+1) (by simp))
 replace HB:=hD (below2S HB.out bb)
 clear b bb
 obtain⟨c0,c1,c2,c3,c4⟩:=KA.out
 obtain⟨d0,d1,d2,d3,d4⟩:=KB.out
 go_wp2_with fail
 generalize hW:(w4.alloc (.cells #[.bool a1,.bool a2,.bool a3,.bool a4,.bool a5] 115)).alloc (.cells #[.bool b1,.bool b2,.bool b3,.bool b4,.bool b5] 115)=w5 at HB KA KB c0 c1 c2 c3 c4 d0 d1 d2 d3 d4 ⊢
 clear hW c0 c1 c2 c3 c4 d0 d1 d2 d3 d4
 have RH:=rhas_any (HV.out.later HB.out) u o
 rw [FQ.out] at RH
 refine RH.mono ?_
 rintro e w6 ⟨rfl,rfl⟩
 clear RH
 go_wp2_with fail
 refine (rof_any (HV.out.later HB.out) (by omega) u).mono ?_
 rintro e w7 ⟨u7,rfl,hot,b⟩
 obtain⟨a7',k7',rfl⟩:=ownT_slice hot
 replace HB:=hD (below2S HB.out b)
 replace KA:=hD (KA.out.later b)
 replace KB:=hD (KB.out.later b)
 clear b hot
 go_wp2_with fail
 refine (rof_any (HV.out.later HB.out) (by omega) o).mono ?_
 rintro e w8 ⟨u8,rfl,hot,b⟩
 obtain⟨a8',k8',rfl⟩:=ownT_slice hot
 replace HB:=hD (below2S HB.out b)
 replace KA:=hD (KA.out.later b)
 replace KB:=hD (KB.out.later b)
 clear b hot
 obtain⟨c0,c1,c2,c3,c4⟩:=KA.out
 obtain⟨d0,d1,d2,d3,d4⟩:=KB.out
 go_wp2_with fail
 clear c0 c1 c2 c3 c4 d0 d1 d2 d3 d4
 refine (GA.out _).mono ?_
 rintro e w9 ⟨rfl,b⟩
 replace HB:=hD (below2S HB.out b)
 replace KA:=hD (KA.out.later b)
 replace KB:=hD (KB.out.later b)
 clear b
 obtain⟨c0,c1,c2,c3,c4⟩:=KA.out
 obtain⟨d0,d1,d2,d3,d4⟩:=KB.out
 go_wp2_with fail
 clear c0 c1 c2 c3 c4 d0 d1 d2 d3 d4
 refine (rset8_any (HV.out.later HB.out) (by omega) u o a1 a2 a3 a4 a5 true).mono ?_
 rintro e w11 ⟨y,rfl,hy,b⟩
 replace HB:=hD (below2S HB.out b)
 replace KB:=hD (KB.out.later b)
 have YE:=hD (hy.rd entOK).ents
 have hyl:=rsO_len ⟨u,o,⟨a1,a2,a3,a4,a5⟩⟩ l (!true)
 obtain⟨ya,yc,ey,_⟩:=YE.out.open'
 subst ey
 clear b hy
 obtain⟨d0,d1,d2,d3,d4⟩:=KB.out
 go_wp2_with fail
 refine (rset8_any YE.out (by omega) o u b1 b2 b3 b4 b5 true).mono ?_
 rintro e w12 ⟨z,rfl,hz,b⟩
 replace HB:=hD (below2S HB.out b)
 have ZE:=hD (hz.rd entOK).ents
 clear b hz
 go_wp2_with fail
 go_ret2
 exact⟨_,rfl,ZE.out,HB.out⟩

theorem rdodJ2 {w:World} {v:Value} {l:List Ent} (hv:Ents w v l) (hs:ShortE l) (hl:l.length≤900) (u o:List UInt8) (hu:u.length≤4294967296) (ho:o.length≤4294967296) (k:Int) (hm:roMayD l=true) (h1:idIs u=true) (h2:idIs o=true) (h3:(u == o)=false) (h4:1≤k) (h5:k≤6) {i1 i2 i3 i4 i5 j1 j2 j3 j4 j5 a1 a2 a3 a4 a5 b1 b2 b3 b4 b5:Bool} (hi:roGet l u o=⟨i1,i2,i3,i4,i5⟩) (hj:roGet l o u=⟨j1,j2,j3,j4,j5⟩) (hact:suAct ⟨i1,i2,i3,i4,i5⟩ ⟨j1,j2,j3,j4,j5⟩ k=(⟨a1,a2,a3,a4,a5⟩,⟨b1,b2,b3,b4,b5⟩,0)) (hq:roHas l u o=false) (gu:decide (16≤(roOf l u).length)=false) (go:decide (16≤(roOf l o).length)=false) (ga:suEmpty ⟨a1,a2,a3,a4,a5⟩=true) (gb:suEmpty ⟨b1,b2,b3,b4,b5⟩=false) :
  Calls Tryz.prog 111 #[v,.int .i64 k,.string ⟨u.toArray⟩,.string ⟨o.toArray⟩] w fun e w' => ∃ v',e=.returned (.tuple #[v',.int .i64 0])∧Ents w' v' (rsO entLt entIs ⟨o,u,⟨b1,b2,b3,b4,b5⟩⟩ (rsO entLt entIs ⟨u,o,⟨a1,a2,a3,a4,a5⟩⟩ l (!true)) (!true))∧Below w.heap.size w w':=by
 have HV:=hD hv
 have HM:=hD (rmay8_any hv hs (by omega) (hD hm))
 have I1:=ris_any u hu
 rw [h1] at I1
 replace I1:=hD I1
 have I2:=ris_any o ho
 rw [h2] at I2
 replace I2:=hD I2
 have t4:decide (k < 1)=false:=by simp; omega
 have t5:decide (6 < k)=false:=by simp; omega
 have FI:=hD hi
 have FJ:=hD hj
 have HA:=hD (ract_eq (hD hact))
 have FQ:=hD hq
 clear hq
 have tgu:decide ((16:Int)≤((roOf l u).length:Int))=false:=by rw [← gu]; congr 1; apply propext; omega
 have tgo:decide ((16:Int)≤((roOf l o).length:Int))=false:=by rw [← go]; congr 1; apply propext; omega
 clear gu go
 have GA:=hD (rsempty_eq a1 a2 a3 a4 a5 ga)
 have GB:=hD (rsempty_eq b1 b2 b3 b4 b5 gb)
 clear ga gb
 obtain⟨a,cap,rfl,hmx⟩:=hv.open'
 clear hv hs hm h1 h2 h4 h5 hi hj hact
 go_enter Tryz.func111,Tryz.ntmps111
 go_wp2_with fail
 refine HM.out.mono ?_
 rintro e w1 ⟨rfl,b⟩
 have HB:=hD b
 clear b
 go_wp2_with fail
 refine (I1.out _).mono ?_
 rintro e w2 ⟨rfl,rfl⟩
 go_wp2_with fail
 refine (I2.out _).mono ?_
 rintro e w2 ⟨rfl,rfl⟩
 go_wp2_with fail
 refine (rget8_eq (HV.out.later HB.out) u o FI).mono ?_
 rintro e w2 ⟨rfl,b⟩
 replace HB:=hD (below2S HB.out b)
 clear b
 go_wp2_with fail
 refine (rget8_eq (HV.out.later HB.out) o u FJ).mono ?_
 rintro e w3 ⟨rfl,b⟩
 replace HB:=hD (below2S HB.out b)
 clear b
 go_wp2_with fail
 refine (HA.out _).mono ?_
 rintro e w4 ⟨rfl,b⟩
 have bb:=below2S b (below2S (bl_newZ w4 (.cells #[.bool a1,.bool a2,.bool a3,.bool a4,.bool a5] 115)) (bl_newZ _ (.cells #[.bool b1,.bool b2,.bool b3,.bool b4,.bool b5] 115)))
 have KA:=hD ((itAt_made w4 ⟨a1,a2,a3,a4,a5⟩ w4.heap.size rfl).later (bl_newZ _ (.cells #[.bool b1,.bool b2,.bool b3,.bool b4,.bool b5] 115)))
 have KB:=hD (itAt_made (w4.alloc (.cells #[.bool a1,.bool a2,.bool a3,.bool a4,.bool a5] 115)) ⟨b1,b2,b3,b4,b5⟩ (w4.heap.size+1) (by simp))
 replace HB:=hD (below2S HB.out bb)
 clear b bb
 obtain⟨c0,c1,c2,c3,c4⟩:=KA.out
 obtain⟨d0,d1,d2,d3,d4⟩:=KB.out
 go_wp2_with fail
 generalize hW:(w4.alloc (.cells #[.bool a1,.bool a2,.bool a3,.bool a4,.bool a5] 115)).alloc (.cells #[.bool b1,.bool b2,.bool b3,.bool b4,.bool b5] 115)=w5 at HB KA KB c0 c1 c2 c3 c4 d0 d1 d2 d3 d4 ⊢
 clear hW c0 c1 c2 c3 c4 d0 d1 d2 d3 d4
 have RH:=rhas_any (HV.out.later HB.out) u o
 rw [FQ.out] at RH
 refine RH.mono ?_
 rintro e w6 ⟨rfl,rfl⟩
 clear RH
 go_wp2_with fail
 refine (rof_any (HV.out.later HB.out) (by omega) u).mono ?_
 rintro e w7 ⟨u7,rfl,hot,b⟩
 obtain⟨a7',k7',rfl⟩:=ownT_slice hot
 replace HB:=hD (below2S HB.out b)
 replace KA:=hD (KA.out.later b)
 replace KB:=hD (KB.out.later b)
 clear b hot
 go_wp2_with fail
 refine (rof_any (HV.out.later HB.out) (by omega) o).mono ?_
 rintro e w8 ⟨u8,rfl,hot,b⟩
 obtain⟨a8',k8',rfl⟩:=ownT_slice hot
 replace HB:=hD (below2S HB.out b)
 replace KA:=hD (KA.out.later b)
 replace KB:=hD (KB.out.later b)
 clear b hot
 obtain⟨c0,c1,c2,c3,c4⟩:=KA.out
 obtain⟨d0,d1,d2,d3,d4⟩:=KB.out
 go_wp2_with fail
 clear c0 c1 c2 c3 c4 d0 d1 d2 d3 d4
 refine (GA.out _).mono ?_
 rintro e w9 ⟨rfl,b⟩
 replace HB:=hD (below2S HB.out b)
 replace KA:=hD (KA.out.later b)
 replace KB:=hD (KB.out.later b)
 clear b
 obtain⟨c0,c1,c2,c3,c4⟩:=KA.out
 obtain⟨d0,d1,d2,d3,d4⟩:=KB.out
 go_wp2_with fail
 clear c0 c1 c2 c3 c4 d0 d1 d2 d3 d4
 refine (GB.out _).mono ?_
 rintro e w10 ⟨rfl,b⟩
 replace HB:=hD (below2S HB.out b)
 replace KA:=hD (KA.out.later b)
 replace KB:=hD (KB.out.later b)
 clear b
 obtain⟨c0,c1,c2,c3,c4⟩:=KA.out
 obtain⟨d0,d1,d2,d3,d4⟩:=KB.out
 go_wp2_with fail
 clear c0 c1 c2 c3 c4 d0 d1 d2 d3 d4
 refine (rset8_any (HV.out.later HB.out) (by omega) u o a1 a2 a3 a4 a5 true).mono ?_
 rintro e w11 ⟨y,rfl,hy,b⟩
 replace HB:=hD (below2S HB.out b)
 replace KB:=hD (KB.out.later b)
 have YE:=hD (hy.rd entOK).ents
 have hyl:=rsO_len ⟨u,o,⟨a1,a2,a3,a4,a5⟩⟩ l (!true)
 obtain⟨ya,yc,ey,_⟩:=YE.out.open'
 subst ey
 clear b hy
 obtain⟨d0,d1,d2,d3,d4⟩:=KB.out
 go_wp2_with fail
 refine (rset8_any YE.out (by omega) o u b1 b2 b3 b4 b5 true).mono ?_
 rintro e w12 ⟨z,rfl,hz,b⟩
 replace HB:=hD (below2S HB.out b)
 have ZE:=hD (hz.rd entOK).ents
 clear b hz
 go_wp2_with fail
 go_ret2
 exact⟨_,rfl,ZE.out,HB.out⟩

theorem rdodJ3 {w:World} {v:Value} {l:List Ent} (hv:Ents w v l) (hs:ShortE l) (hl:l.length≤900) (u o:List UInt8) (hu:u.length≤4294967296) (ho:o.length≤4294967296) (k:Int) (hm:roMayD l=true) (h1:idIs u=true) (h2:idIs o=true) (h3:(u == o)=false) (h4:1≤k) (h5:k≤6) {i1 i2 i3 i4 i5 j1 j2 j3 j4 j5 a1 a2 a3 a4 a5 b1 b2 b3 b4 b5:Bool} (hi:roGet l u o=⟨i1,i2,i3,i4,i5⟩) (hj:roGet l o u=⟨j1,j2,j3,j4,j5⟩) (hact:suAct ⟨i1,i2,i3,i4,i5⟩ ⟨j1,j2,j3,j4,j5⟩ k=(⟨a1,a2,a3,a4,a5⟩,⟨b1,b2,b3,b4,b5⟩,0)) (hq:roHas l u o=false) (gu:decide (16≤(roOf l u).length)=false) (go:decide (16≤(roOf l o).length)=false) (ga:suEmpty ⟨a1,a2,a3,a4,a5⟩=true) (gb:suEmpty ⟨b1,b2,b3,b4,b5⟩=true) :
  Calls Tryz.prog 111 #[v,.int .i64 k,.string ⟨u.toArray⟩,.string ⟨o.toArray⟩] w fun e w' => ∃ v',e=.returned (.tuple #[v',.int .i64 0])∧Ents w' v' (rsO entLt entIs ⟨o,u,⟨b1,b2,b3,b4,b5⟩⟩ (rsO entLt entIs ⟨u,o,⟨a1,a2,a3,a4,a5⟩⟩ l (!false)) (!false))∧Below w.heap.size w w':=by
 have HV:=hD hv
 have HM:=hD (rmay8_any hv hs (by omega) (hD hm))
 have I1:=ris_any u hu
 rw [h1] at I1
 replace I1:=hD I1
 have I2:=ris_any o ho
 rw [h2] at I2
 replace I2:=hD I2
 have t4:decide (k < 1)=false:=by simp; omega
 have t5:decide (6 < k)=false:=by simp; omega
 have FI:=hD hi
 have FJ:=hD hj
 have HA:=hD (ract_eq (hD hact))
 have FQ:=hD hq
 clear hq
 have tgu:decide ((16:Int)≤((roOf l u).length:Int))=false:=by rw [← gu]; congr 1; apply propext; omega
 have tgo:decide ((16:Int)≤((roOf l o).length:Int))=false:=by rw [← go]; congr 1; apply propext; omega
 clear gu go
 have GA:=hD (rsempty_eq a1 a2 a3 a4 a5 ga)
 have GB:=hD (rsempty_eq b1 b2 b3 b4 b5 gb)
 clear ga gb
 obtain⟨a,cap,rfl,hmx⟩:=hv.open'
 clear hv hs hm h1 h2 h4 h5 hi hj hact
 go_enter Tryz.func111,Tryz.ntmps111
 go_wp2_with fail
 refine HM.out.mono ?_
 rintro e w1 ⟨rfl,b⟩
 have HB:=hD b
 clear b
 go_wp2_with fail
 refine (I1.out _).mono ?_
 rintro e w2 ⟨rfl,rfl⟩
 go_wp2_with fail
 refine (I2.out _).mono ?_
 rintro e w2 ⟨rfl,rfl⟩
 go_wp2_with fail
 refine (rget8_eq (HV.out.later HB.out) u o FI).mono ?_
 rintro e w2 ⟨rfl,b⟩
 replace HB:=hD (below2S HB.out b)
 clear b
 go_wp2_with fail
 refine (rget8_eq (HV.out.later HB.out) o u FJ).mono ?_
 rintro e w3 ⟨rfl,b⟩
 replace HB:=hD (below2S HB.out b)
 clear b
 go_wp2_with fail
 refine (HA.out _).mono ?_
 rintro e w4 ⟨rfl,b⟩
 have bb:=below2S b (below2S (bl_newZ w4 (.cells #[.bool a1,.bool a2,.bool a3,.bool a4,.bool a5] 115)) (bl_newZ _ (.cells #[.bool b1,.bool b2,.bool b3,.bool b4,.bool b5] 115)))
 have KA:=hD ((itAt_made w4 ⟨a1,a2,a3,a4,a5⟩ w4.heap.size rfl).later (bl_newZ _ (.cells #[.bool b1,.bool b2,.bool b3,.bool b4,.bool b5] 115)))
 have KB:=hD (itAt_made (w4.alloc (.cells #[.bool a1,.bool a2,.bool a3,.bool a4,.bool a5] 115)) ⟨b1,b2,b3,b4,b5⟩ (w4.heap.size+1) (by simp))
 replace HB:=hD (below2S HB.out bb)
 clear b bb
 obtain⟨c0,c1,c2,c3,c4⟩:=KA.out
 obtain⟨d0,d1,d2,d3,d4⟩:=KB.out
 go_wp2_with fail
 generalize hW:(w4.alloc (.cells #[.bool a1,.bool a2,.bool a3,.bool a4,.bool a5] 115)).alloc (.cells #[.bool b1,.bool b2,.bool b3,.bool b4,.bool b5] 115)=w5 at HB KA KB c0 c1 c2 c3 c4 d0 d1 d2 d3 d4 ⊢
 clear hW c0 c1 c2 c3 c4 d0 d1 d2 d3 d4
 have RH:=rhas_any (HV.out.later HB.out) u o
 rw [FQ.out] at RH
 refine RH.mono ?_
 rintro e w6 ⟨rfl,rfl⟩
 clear RH
 go_wp2_with fail
 refine (rof_any (HV.out.later HB.out) (by omega) u).mono ?_
 rintro e w7 ⟨u7,rfl,hot,b⟩
 obtain⟨a7',k7',rfl⟩:=ownT_slice hot
 replace HB:=hD (below2S HB.out b)
 replace KA:=hD (KA.out.later b)
 replace KB:=hD (KB.out.later b)
 clear b hot
 go_wp2_with fail
 refine (rof_any (HV.out.later HB.out) (by omega) o).mono ?_
 rintro e w8 ⟨u8,rfl,hot,b⟩
 obtain⟨a8',k8',rfl⟩:=ownT_slice hot
 replace HB:=hD (below2S HB.out b)
 replace KA:=hD (KA.out.later b)
 replace KB:=hD (KB.out.later b)
 clear b hot
 obtain⟨c0,c1,c2,c3,c4⟩:=KA.out
 obtain⟨d0,d1,d2,d3,d4⟩:=KB.out
 go_wp2_with fail
 clear c0 c1 c2 c3 c4 d0 d1 d2 d3 d4
 refine (GA.out _).mono ?_
 rintro e w9 ⟨rfl,b⟩
 replace HB:=hD (below2S HB.out b)
 replace KA:=hD (KA.out.later b)
 replace KB:=hD (KB.out.later b)
 clear b
 obtain⟨c0,c1,c2,c3,c4⟩:=KA.out
 obtain⟨d0,d1,d2,d3,d4⟩:=KB.out
 go_wp2_with fail
 clear c0 c1 c2 c3 c4 d0 d1 d2 d3 d4
 refine (GB.out _).mono ?_
 rintro e w10 ⟨rfl,b⟩
 replace HB:=hD (below2S HB.out b)
 replace KA:=hD (KA.out.later b)
 replace KB:=hD (KB.out.later b)
 clear b
 obtain⟨c0,c1,c2,c3,c4⟩:=KA.out
 obtain⟨d0,d1,d2,d3,d4⟩:=KB.out
 go_wp2_with fail
 clear c0 c1 c2 c3 c4 d0 d1 d2 d3 d4
 refine (rset8_any (HV.out.later HB.out) (by omega) u o a1 a2 a3 a4 a5 false).mono ?_
 rintro e w11 ⟨y,rfl,hy,b⟩
 replace HB:=hD (below2S HB.out b)
 replace KB:=hD (KB.out.later b)
 have YE:=hD (hy.rd entOK).ents
 have hyl:=rsO_len ⟨u,o,⟨a1,a2,a3,a4,a5⟩⟩ l (!false)
 obtain⟨ya,yc,ey,_⟩:=YE.out.open'
 subst ey
 clear b hy
 obtain⟨d0,d1,d2,d3,d4⟩:=KB.out
 go_wp2_with fail
 refine (rset8_any YE.out (by omega) o u b1 b2 b3 b4 b5 false).mono ?_
 rintro e w12 ⟨z,rfl,hz,b⟩
 replace HB:=hD (below2S HB.out b)
 have ZE:=hD (hz.rd entOK).ents
 clear b hz
 go_wp2_with fail
 go_ret2
 exact⟨_,rfl,ZE.out,HB.out⟩

theorem rdo8_any {w:World} {v:Value} {l:List Ent} (hv:Ents w v l) (hs:ShortE l) (hl:l.length≤900) (u o:List UInt8) (hu:u.length≤4294967296) (ho:o.length≤4294967296) (k:Int) {R:List Ent} {n:Nat} (h:roDo l k u o=(R,n)) :
  Calls Tryz.prog 111 #[v,.int .i64 k,.string ⟨u.toArray⟩,.string ⟨o.toArray⟩] w fun e w' => ∃ v',e=.returned (.tuple #[v',.int .i64 (n:Int)])∧Ents w' v' R∧Below w.heap.size w w':=by
 unfold roDo at h
 have hmd:=roMay_same l
 cases hm:roMayC l with
 | false =>
  rw [hm] at h hmd
  simp only [Bool.false_and,Bool.false_eq_true,if_false,Prod.mk.injEq] at h
  obtain⟨rfl,rfl⟩:=h
  exact rdodA hv hs hl u o hu ho k hmd
 | true =>
  rw [hm] at hmd
  cases h1:idIs u with
  | false =>
   rw [hm,h1] at h
   simp only [Bool.false_and,Bool.true_and,Bool.false_eq_true,if_false,Prod.mk.injEq] at h
   obtain⟨rfl,rfl⟩:=h
   exact rdodB hv hs hl u o hu ho k hmd h1
  | true =>
   cases h2:idIs o with
   | false =>
    rw [hm,h1,h2] at h
    simp only [Bool.false_and,Bool.true_and,Bool.false_eq_true,if_false,Prod.mk.injEq] at h
    obtain⟨rfl,rfl⟩:=h
    exact rdodC hv hs hl u o hu ho k hmd h1 h2
   | true =>
    by_cases h3:u=o
    ·rw [hm,h1,h2] at h
     simp only [h3,decide_true,Bool.not_true,Bool.false_and,Bool.true_and,Bool.false_eq_true,if_false,Prod.mk.injEq] at h
     obtain⟨rfl,rfl⟩:=h
     exact rdodD hv hs hl u o hu ho k hmd h1 h2 (by simpa using h3)
    ·have h3':(u == o)=false:=by rw [beq_eq_false_iff_ne]; exact h3
     by_cases h4:1≤k
     ·by_cases h5:k≤6
      ·obtain⟨⟨i1,i2,i3,i4,i5⟩,hi⟩ : ∃ r,roIt l u o=r:=⟨_,rfl⟩
       obtain⟨⟨j1,j2,j3,j4,j5⟩,hj⟩ : ∃ r,roIt l o u=r:=⟨_,rfl⟩
       have gi:roGet l u o=⟨i1,i2,i3,i4,i5⟩:=hi
       have gj:roGet l o u=⟨j1,j2,j3,j4,j5⟩:=hj
       obtain⟨q,hq⟩ : ∃ q,(l.any fun x => entIs x ⟨u,o,It.zero⟩)=q:=⟨_,rfl⟩
       have gq:roHas l u o=q:=hq
       obtain⟨⟨⟨a1,a2,a3,a4,a5⟩,⟨b1,b2,b3,b4,b5⟩,er⟩,hact⟩ : ∃ r,suAct ⟨i1,i2,i3,i4,i5⟩ ⟨j1,j2,j3,j4,j5⟩ k=r:=⟨_,rfl⟩
       rw [hm,h1,h2,hi,hj,hact,hq] at h
       simp only [h3,h4,h5,decide_false,decide_true,Bool.not_false,Bool.and_self,if_true] at h
       by_cases he:er=0
       ·subst he
        rw [if_neg (by simp)] at h
        unfold roSet at h
        cases q with
        | false =>
         cases gu:decide (16≤(roOf l u).length) with
         | true =>
          rw [gu] at h
          simp only [Bool.not_false,Bool.true_and,Bool.true_or,if_true,Prod.mk.injEq] at h
          obtain⟨rfl,rfl⟩:=h
          exact rdodH1 hv hs hl u o hu ho k hmd h1 h2 h3' h4 h5 gi gj hact gq gu
         | false =>
          cases go:decide (16≤(roOf l o).length) with
          | true =>
           rw [gu,go] at h
           simp only [Bool.not_false,Bool.true_and,Bool.or_true,if_true,Prod.mk.injEq] at h
           obtain⟨rfl,rfl⟩:=h
           exact rdodH2 hv hs hl u o hu ho k hmd h1 h2 h3' h4 h5 gi gj hact gq gu go
          | false =>
           rw [gu,go] at h
           simp only [Bool.or_self,Bool.and_false,Bool.false_eq_true,if_false,Prod.mk.injEq] at h
           obtain⟨rfl,rfl⟩:=h
           cases ga:suEmpty ⟨a1,a2,a3,a4,a5⟩ with
           | true =>
            cases gb:suEmpty ⟨b1,b2,b3,b4,b5⟩ with
            | true => exact rdodJ3 hv hs hl u o hu ho k hmd h1 h2 h3' h4 h5 gi gj hact gq gu go ga gb
            | false => exact rdodJ2 hv hs hl u o hu ho k hmd h1 h2 h3' h4 h5 gi gj hact gq gu go ga gb
           | false => exact rdodJ1 hv hs hl u o hu ho k hmd h1 h2 h3' h4 h5 gi gj hact gq gu go ga
        | true =>
         simp only [Bool.not_true,Bool.false_and,Bool.false_eq_true,if_false,Prod.mk.injEq] at h
         obtain⟨rfl,rfl⟩:=h
         cases ga:suEmpty ⟨a1,a2,a3,a4,a5⟩ with
         | true =>
          cases gb:suEmpty ⟨b1,b2,b3,b4,b5⟩ with
          | true => exact rdodI3 hv hs hl u o hu ho k hmd h1 h2 h3' h4 h5 gi gj hact gq ga gb
          | false => exact rdodI2 hv hs hl u o hu ho k hmd h1 h2 h3' h4 h5 gi gj hact gq ga gb
         | false => exact rdodI1 hv hs hl u o hu ho k hmd h1 h2 h3' h4 h5 gi gj hact gq ga
       ·rw [if_pos he] at h
        simp only [Prod.mk.injEq] at h
        obtain⟨rfl,rfl⟩:=h
        exact rdodG hv hs hl u o hu ho k hmd h1 h2 h3' h4 h5 gi gj hact he
      ·rw [hm,h1,h2] at h
       simp only [h5,decide_false,Bool.and_false,Bool.false_eq_true,if_false,Prod.mk.injEq] at h
       obtain⟨rfl,rfl⟩:=h
       exact rdodF hv hs hl u o hu ho k hmd h1 h2 h3' h4 (by omega)
     ·rw [hm,h1,h2] at h
      simp only [h4,decide_false,Bool.false_and,Bool.and_false,Bool.false_eq_true,if_false,Prod.mk.injEq] at h
      obtain⟨rfl,rfl⟩:=h
      exact rdodE hv hs hl u o hu ho k hmd h1 h2 h3' (by omega)

end Go.Proofs.YtphfinlfabklmaaGreat
