/-
 TEXTS OF THE PROOF, one behind the other: RosDoC2.
-/
import Derived.Test.YtphfinlfabklmaaGreatB14
import Derived.Test.YtphfinlfabklmaaGreatB01

set_option maxHeartbeats 12800000
set_option maxRecDepth 100000

namespace Go.Proofs.YtphfinlfabklmaaGreat
open Go.RowKit

theorem rdoF1 {w:World} {v:Value} {l:List Ent} (hv:Ents w v l) (hs:ShortE l) (hl:l.length≤900) (u o:List UInt8) (hu:u.length≤4294967296) (ho:o.length≤4294967296) (k:Int) (hm:roMayC l=true) (h1:idIs u=true) (h2:idIs o=true) (h3:(u == o)=false) {i1 i2 i3 i4 i5 j1 j2 j3 j4 j5 q q' a1 a2 a3 a4 a5 b1 b2 b3 b4 b5:Bool} (hi:roIt l u o=⟨i1,i2,i3,i4,i5⟩) (hj:roIt l o u=⟨j1,j2,j3,j4,j5⟩) (hq:(l.any fun x => entIs x ⟨u,o,It.zero⟩)=q) (hq':(l.any fun x => entIs x ⟨o,u,It.zero⟩)=q') (hk:(Lit.int .i64 k).wf=true) (hact:suAct ⟨i1,i2,i3,i4,i5⟩ ⟨j1,j2,j3,j4,j5⟩ k=(⟨a1,a2,a3,a4,a5⟩,⟨b1,b2,b3,b4,b5⟩,0)) (hf:q=false) (gu:decide (16≤(roOf l u).length)=true) :
  Calls Tryz.prog 82 #[v,.int .i64 k,.string ⟨u.toArray⟩,.string ⟨o.toArray⟩] w fun e w' => ∃ v',e=.returned (.tuple #[v',.int .i64 5])∧Ents w' v' l∧Below w.heap.size w w':=by
 subst hf
 have GU:=hD gu
 clear gu
 have HV:=hD hv
 have HM:=hD (romay_any hv hs (hD hm))
 have HR:=hD (roMay_rise hm)
 have I1:=hD (is_eq u hu (hD h1))
 have I2:=hD (is_eq o ho (hD h2))
 have E1:=hD (entry_any u o)
 have E2:=hD (entry_any o u)
 have FI:=hD hi
 have FJ:=hD hj
 have FQ:=hD hq
 have FQ':=hD hq'
 have HA:=hD (sact_any i1 i2 i3 i4 i5 j1 j2 j3 j4 j5 k hk)
 rw [hact] at HA
 obtain⟨a,cap,rfl,hmx⟩:=hv.open'
 clear hv hs hm h1 h2 hi hj hq hq' hk hact
 go_enter Tryz.func82,Tryz.ntmps82
 go_wp2_with fail
 refine HM.out.mono ?_
 rintro e w1 ⟨rfl,b1⟩
 have HB:=hD b1
 clear b1
 go_wp2_with fail
 refine (I1.out _).mono ?_
 rintro e w2 ⟨rfl,b⟩
 replace HB:=hD (below2S HB.out b)
 clear b
 go_wp2_with fail
 refine (I2.out _).mono ?_
 rintro e w3 ⟨rfl,b⟩
 replace HB:=hD (below2S HB.out b)
 clear b
 go_wp2_with fail
 refine (E1.out _).mono ?_
 rintro e w4 ⟨rfl,b⟩
 replace HB:=hD (below2S HB.out b)
 clear b
 go_wp2_with fail
 refine (rfind_eq (HV.out.later HB.out) HR.out u o FI FQ).mono ?_
 rintro e w5 ⟨rfl,b⟩
 have bb:=bl_newZ w5 (.cells #[.string ⟨u.toArray⟩,.string ⟨o.toArray⟩,.bool i1,.bool i2,.bool i3,.bool i4,.bool i5] 126)
 have X10:=hD (heap_newR w5 (.cells #[.string ⟨u.toArray⟩,.string ⟨o.toArray⟩,.bool i1,.bool i2,.bool i3,.bool i4,.bool i5] 126) rfl)
 have HS5:=hD (below2S HB.out b).size
 replace HB:=hD (below2S (below2S HB.out b) bb)
 clear b bb
 go_wp2_with fail
 generalize hW:w5.alloc (.cells #[.string ⟨u.toArray⟩,.string ⟨o.toArray⟩,.bool i1,.bool i2,.bool i3,.bool i4,.bool i5] 126)=w6 at HB X10 ⊢
 generalize hN:w5.heap.size=n5 at X10 HS5 ⊢
 clear hW hN
 refine (E2.out _).mono ?_
 rintro e w7 ⟨rfl,b⟩
 replace X10:=hD (heap_laterR X10.out b)
 replace HB:=hD (below2S HB.out b)
 clear b
 go_wp2_with fail
 refine (rfind_eq (HV.out.later HB.out) HR.out o u FJ FQ').mono ?_
 rintro e w8 ⟨rfl,b⟩
 have bb:=bl_newZ w8 (.cells #[.string ⟨o.toArray⟩,.string ⟨u.toArray⟩,.bool j1,.bool j2,.bool j3,.bool j4,.bool j5] 126)
 have X12:=hD (heap_newR w8 (.cells #[.string ⟨o.toArray⟩,.string ⟨u.toArray⟩,.bool j1,.bool j2,.bool j3,.bool j4,.bool j5] 126) rfl)
 have HS8:=hD (below2S HB.out b).size
 replace X10:=hD (heap_laterR X10.out b)
 have hne:=hD (heap_ltR X10.out)
 replace X10:=hD (heap_laterR X10.out bb)
 replace HB:=hD (below2S (below2S HB.out b) bb)
 clear b bb
 obtain⟨c0,c1,c2,c3,c4,c5,c6⟩:=e7_cells X10.out
 obtain⟨d0,d1,d2,d3,d4,d5,d6⟩:=e7_cells X12.out
 simp only [Nat.zero_add] at c0 c1 c2 c3 c4 c5 c6 d0 d1 d2 d3 d4 d5 d6
 go_wp2_with fail
 generalize hW:w8.alloc (.cells #[.string ⟨o.toArray⟩,.string ⟨u.toArray⟩,.bool j1,.bool j2,.bool j3,.bool j4,.bool j5] 126)=w9 at HB X10 X12 c0 c1 c2 c3 c4 c5 c6 d0 d1 d2 d3 d4 d5 d6 ⊢
 generalize hN:w8.heap.size=n8 at X12 HS8 hne d0 d1 d2 d3 d4 d5 d6 ⊢
 clear hW hN c0 c1 c2 c3 c4 c5 c6 d0 d1 d2 d3 d4 d5 d6
 refine (HA.out _).mono ?_
 rintro e w10 ⟨rfl,b⟩
 replace X10:=hD (heap_laterR X10.out b)
 replace X12:=hD (heap_laterR X12.out b)
 replace HB:=hD (below2S HB.out b)
 clear b
 have hne1:n5 ≠ n8:=by have:=hne.out; omega
 have Y12:=e7_other X12.out hne1 a1 a2 a3 a4 a5
 have Y10:=e7_set X10.out a1 a2 a3 a4 a5
 have Z12:=hD (e7_set Y12 b1 b2 b3 b4 b5)
 have Z10:=hD (e7_other Y10 hne1.symm b1 b2 b3 b4 b5)
 have ZB:=hD (setI_below (setI_below HB.out HS5.out a1 a2 a3 a4 a5) HS8.out b1 b2 b3 b4 b5)
 obtain⟨c0,c1,c2,c3,c4,c5,c6⟩:=e7_cells X10.out
 obtain⟨d0,d1,d2,d3,d4,d5,d6⟩:=e7_cells Y12
 simp only [Nat.zero_add] at c0 c1 c2 c3 c4 c5 c6 d0 d1 d2 d3 d4 d5 d6
 have f2:=e7_frozen X10.out 2
 have f3:=e7_frozen X10.out 3
 have f4:=e7_frozen X10.out 4
 have f5:=e7_frozen X10.out 5
 have f6:=e7_frozen X10.out 6
 have g2:=e7_frozen Y12 2
 have g3:=e7_frozen Y12 3
 have g4:=e7_frozen Y12 4
 have g5:=e7_frozen Y12 5
 have g6:=e7_frozen Y12 6
 unfold setI at d0 d1 d2 d3 d4 d5 d6 g2 g3 g4 g5 g6
 clear Y10 Y12
 unfold actE
 obtain⟨e0,e1,e2,e3,e4,e5,e6⟩:=e7_cells Z10.out
 obtain⟨p0,p1,p2,p3,p4,p5,p6⟩:=e7_cells Z12.out
 simp only [Nat.zero_add] at e0 e1 e2 e3 e4 e5 e6 p0 p1 p2 p3 p4 p5 p6
 unfold setI at e0 e1 e2 e3 e4 e5 e6 p0 p1 p2 p3 p4 p5 p6
 replace X10:=Z10
 replace X12:=Z12
 replace HB:=ZB
 clear Z10 Z12 ZB
 go_wp2_with fail
 clear c0 c1 c2 c3 c4 c5 c6 d0 d1 d2 d3 d4 d5 d6 f2 f3 f4 f5 f6 g2 g3 g4 g5 g6 e0 e1 e2 e3 e4 e5 e6 p0 p1 p2 p3 p4 p5 p6 HA FI FJ FQ FQ' HM I1 I2 E1 E2
 refine (risFull_any (HV.out.later HB.out) (by omega) u GU).mono ?_
 rintro e w12 ⟨rfl,b⟩
 replace X10:=hD (heap_laterR X10.out b)
 replace X12:=hD (heap_laterR X12.out b)
 replace HB:=hD (below2S HB.out b)
 clear b
 go_wp2_with fail
 go_ret2
 exact⟨_,rfl,HV.out.later HB.out,HB.out⟩

theorem rdoF2 {w:World} {v:Value} {l:List Ent} (hv:Ents w v l) (hs:ShortE l) (hl:l.length≤900) (u o:List UInt8) (hu:u.length≤4294967296) (ho:o.length≤4294967296) (k:Int) (hm:roMayC l=true) (h1:idIs u=true) (h2:idIs o=true) (h3:(u == o)=false) {i1 i2 i3 i4 i5 j1 j2 j3 j4 j5 q q' a1 a2 a3 a4 a5 b1 b2 b3 b4 b5:Bool} (hi:roIt l u o=⟨i1,i2,i3,i4,i5⟩) (hj:roIt l o u=⟨j1,j2,j3,j4,j5⟩) (hq:(l.any fun x => entIs x ⟨u,o,It.zero⟩)=q) (hq':(l.any fun x => entIs x ⟨o,u,It.zero⟩)=q') (hk:(Lit.int .i64 k).wf=true) (hact:suAct ⟨i1,i2,i3,i4,i5⟩ ⟨j1,j2,j3,j4,j5⟩ k=(⟨a1,a2,a3,a4,a5⟩,⟨b1,b2,b3,b4,b5⟩,0)) (hf:q=false) (gu:decide (16≤(roOf l u).length)=false) (go:decide (16≤(roOf l o).length)=true) :
  Calls Tryz.prog 82 #[v,.int .i64 k,.string ⟨u.toArray⟩,.string ⟨o.toArray⟩] w fun e w' => ∃ v',e=.returned (.tuple #[v',.int .i64 5])∧Ents w' v' l∧Below w.heap.size w w':=by
 subst hf
 have GU:=hD gu
 have GO:=hD go
 clear gu go
 have HV:=hD hv
 have HM:=hD (romay_any hv hs (hD hm))
 have HR:=hD (roMay_rise hm)
 have I1:=hD (is_eq u hu (hD h1))
 have I2:=hD (is_eq o ho (hD h2))
 have E1:=hD (entry_any u o)
 have E2:=hD (entry_any o u)
 have FI:=hD hi
 have FJ:=hD hj
 have FQ:=hD hq
 have FQ':=hD hq'
 have HA:=hD (sact_any i1 i2 i3 i4 i5 j1 j2 j3 j4 j5 k hk)
 rw [hact] at HA
 obtain⟨a,cap,rfl,hmx⟩:=hv.open'
 clear hv hs hm h1 h2 hi hj hq hq' hk hact
 go_enter Tryz.func82,Tryz.ntmps82
 go_wp2_with fail
 refine HM.out.mono ?_
 rintro e w1 ⟨rfl,b1⟩
 have HB:=hD b1
 clear b1
 go_wp2_with fail
 refine (I1.out _).mono ?_
 rintro e w2 ⟨rfl,b⟩
 replace HB:=hD (below2S HB.out b)
 clear b
 go_wp2_with fail
 refine (I2.out _).mono ?_
 rintro e w3 ⟨rfl,b⟩
 replace HB:=hD (below2S HB.out b)
 clear b
 go_wp2_with fail
 refine (E1.out _).mono ?_
 rintro e w4 ⟨rfl,b⟩
 replace HB:=hD (below2S HB.out b)
 clear b
 go_wp2_with fail
 refine (rfind_eq (HV.out.later HB.out) HR.out u o FI FQ).mono ?_
 rintro e w5 ⟨rfl,b⟩
 have bb:=bl_newZ w5 (.cells #[.string ⟨u.toArray⟩,.string ⟨o.toArray⟩,.bool i1,.bool i2,.bool i3,.bool i4,.bool i5] 126)
 have X10:=hD (heap_newR w5 (.cells #[.string ⟨u.toArray⟩,.string ⟨o.toArray⟩,.bool i1,.bool i2,.bool i3,.bool i4,.bool i5] 126) rfl)
 have HS5:=hD (below2S HB.out b).size
 replace HB:=hD (below2S (below2S HB.out b) bb)
 clear b bb
 go_wp2_with fail
 generalize hW:w5.alloc (.cells #[.string ⟨u.toArray⟩,.string ⟨o.toArray⟩,.bool i1,.bool i2,.bool i3,.bool i4,.bool i5] 126)=w6 at HB X10 ⊢
 generalize hN:w5.heap.size=n5 at X10 HS5 ⊢
 clear hW hN
 refine (E2.out _).mono ?_
 rintro e w7 ⟨rfl,b⟩
 replace X10:=hD (heap_laterR X10.out b)
 replace HB:=hD (below2S HB.out b)
 clear b
 go_wp2_with fail
 refine (rfind_eq (HV.out.later HB.out) HR.out o u FJ FQ').mono ?_
 rintro e w8 ⟨rfl,b⟩
 have bb:=bl_newZ w8 (.cells #[.string ⟨o.toArray⟩,.string ⟨u.toArray⟩,.bool j1,.bool j2,.bool j3,.bool j4,.bool j5] 126)
 have X12:=hD (heap_newR w8 (.cells #[.string ⟨o.toArray⟩,.string ⟨u.toArray⟩,.bool j1,.bool j2,.bool j3,.bool j4,.bool j5] 126) rfl)
 have HS8:=hD (below2S HB.out b).size
 replace X10:=hD (heap_laterR X10.out b)
 have hne:=hD (heap_ltR X10.out)
 replace X10:=hD (heap_laterR X10.out bb)
 replace HB:=hD (below2S (below2S HB.out b) bb)
 clear b bb
 obtain⟨c0,c1,c2,c3,c4,c5,c6⟩:=e7_cells X10.out
 obtain⟨d0,d1,d2,d3,d4,d5,d6⟩:=e7_cells X12.out
 simp only [Nat.zero_add] at c0 c1 c2 c3 c4 c5 c6 d0 d1 d2 d3 d4 d5 d6
 go_wp2_with fail
 generalize hW:w8.alloc (.cells #[.string ⟨o.toArray⟩,.string ⟨u.toArray⟩,.bool j1,.bool j2,.bool j3,.bool j4,.bool j5] 126)=w9 at HB X10 X12 c0 c1 c2 c3 c4 c5 c6 d0 d1 d2 d3 d4 d5 d6 ⊢
 generalize hN:w8.heap.size=n8 at X12 HS8 hne d0 d1 d2 d3 d4 d5 d6 ⊢
 clear hW hN c0 c1 c2 c3 c4 c5 c6 d0 d1 d2 d3 d4 d5 d6
 refine (HA.out _).mono ?_
 rintro e w10 ⟨rfl,b⟩
 replace X10:=hD (heap_laterR X10.out b)
 replace X12:=hD (heap_laterR X12.out b)
 replace HB:=hD (below2S HB.out b)
 clear b
 have hne1:n5 ≠ n8:=by have:=hne.out; omega
 have Y12:=e7_other X12.out hne1 a1 a2 a3 a4 a5
 have Y10:=e7_set X10.out a1 a2 a3 a4 a5
 have Z12:=hD (e7_set Y12 b1 b2 b3 b4 b5)
 have Z10:=hD (e7_other Y10 hne1.symm b1 b2 b3 b4 b5)
 have ZB:=hD (setI_below (setI_below HB.out HS5.out a1 a2 a3 a4 a5) HS8.out b1 b2 b3 b4 b5)
 obtain⟨c0,c1,c2,c3,c4,c5,c6⟩:=e7_cells X10.out
 obtain⟨d0,d1,d2,d3,d4,d5,d6⟩:=e7_cells Y12
 simp only [Nat.zero_add] at c0 c1 c2 c3 c4 c5 c6 d0 d1 d2 d3 d4 d5 d6
 have f2:=e7_frozen X10.out 2
 have f3:=e7_frozen X10.out 3
 have f4:=e7_frozen X10.out 4
 have f5:=e7_frozen X10.out 5
 have f6:=e7_frozen X10.out 6
 have g2:=e7_frozen Y12 2
 have g3:=e7_frozen Y12 3
 have g4:=e7_frozen Y12 4
 have g5:=e7_frozen Y12 5
 have g6:=e7_frozen Y12 6
 unfold setI at d0 d1 d2 d3 d4 d5 d6 g2 g3 g4 g5 g6
 clear Y10 Y12
 unfold actE
 obtain⟨e0,e1,e2,e3,e4,e5,e6⟩:=e7_cells Z10.out
 obtain⟨p0,p1,p2,p3,p4,p5,p6⟩:=e7_cells Z12.out
 simp only [Nat.zero_add] at e0 e1 e2 e3 e4 e5 e6 p0 p1 p2 p3 p4 p5 p6
 unfold setI at e0 e1 e2 e3 e4 e5 e6 p0 p1 p2 p3 p4 p5 p6
 replace X10:=Z10
 replace X12:=Z12
 replace HB:=ZB
 clear Z10 Z12 ZB
 go_wp2_with fail
 clear c0 c1 c2 c3 c4 c5 c6 d0 d1 d2 d3 d4 d5 d6 f2 f3 f4 f5 f6 g2 g3 g4 g5 g6 e0 e1 e2 e3 e4 e5 e6 p0 p1 p2 p3 p4 p5 p6 HA FI FJ FQ FQ' HM I1 I2 E1 E2
 refine (risFull_any (HV.out.later HB.out) (by omega) u GU).mono ?_
 rintro e w12 ⟨rfl,b⟩
 replace X10:=hD (heap_laterR X10.out b)
 replace X12:=hD (heap_laterR X12.out b)
 replace HB:=hD (below2S HB.out b)
 clear b
 go_wp2_with fail
 refine (risFull_any (HV.out.later HB.out) (by omega) o GO).mono ?_
 rintro e w13 ⟨rfl,b⟩
 replace X10:=hD (heap_laterR X10.out b)
 replace X12:=hD (heap_laterR X12.out b)
 replace HB:=hD (below2S HB.out b)
 clear b
 go_wp2_with fail
 go_ret2
 exact⟨_,rfl,HV.out.later HB.out,HB.out⟩

theorem two7 {w:World} {n5 n8:Nat} {u o:List UInt8} {a1 a2 a3 a4 a5 b1 b2 b3 b4 b5:Bool} (h:w.heap[n5]?=some (.cells #[.string ⟨u.toArray⟩,.string ⟨o.toArray⟩,.bool a1,.bool a2,.bool a3,.bool a4,.bool a5] 126 (0,0))) (g:w.heap[n8]?=some (.cells #[.string ⟨o.toArray⟩,.string ⟨u.toArray⟩,.bool b1,.bool b2,.bool b3,.bool b4,.bool b5] 126 (0,0))) :
  ((w).cell? ⟨n5,0,none⟩=some (.string ⟨u.toArray⟩)∧(w).cell? ⟨n5,1,none⟩=some (.string ⟨o.toArray⟩)∧(w).cell? ⟨n5,2,none⟩=some (.bool a1)∧(w).cell? ⟨n5,3,none⟩=some (.bool a2)∧(w).cell? ⟨n5,4,none⟩=some (.bool a3)∧(w).cell? ⟨n5,5,none⟩=some (.bool a4)∧(w).cell? ⟨n5,6,none⟩=some (.bool a5)∧(w).cell? ⟨n8,0,none⟩=some (.string ⟨o.toArray⟩)∧(w).cell? ⟨n8,1,none⟩=some (.string ⟨u.toArray⟩)∧(w).cell? ⟨n8,2,none⟩=some (.bool b1)∧(w).cell? ⟨n8,3,none⟩=some (.bool b2)∧(w).cell? ⟨n8,4,none⟩=some (.bool b3)∧(w).cell? ⟨n8,5,none⟩=some (.bool b4)∧(w).cell? ⟨n8,6,none⟩=some (.bool b5)):=by
 obtain⟨e0,e1,e2,e3,e4,e5,e6⟩:=e7_cells h
 obtain⟨p0,p1,p2,p3,p4,p5,p6⟩:=e7_cells g
 exact⟨e0,e1,e2,e3,e4,e5,e6,p0,p1,p2,p3,p4,p5,p6⟩

theorem dropO_le (l:List Ent) (x:Ent):(dropO entIs l x).length≤l.length:=List.length_filter_le _ _

theorem putO_le (l:List Ent) (x:Ent):(putO entLt entIs l x).length≤l.length+1:=by
 rw [putO_len]
 split <;> omega

theorem rdoG1 {w:World} {v:Value} {l:List Ent} (hv:Ents w v l) (hs:ShortE l) (hl:l.length≤900) (u o:List UInt8) (hu:u.length≤4294967296) (ho:o.length≤4294967296) (k:Int) (hm:roMayC l=true) (h1:idIs u=true) (h2:idIs o=true) (h3:(u == o)=false) {i1 i2 i3 i4 i5 j1 j2 j3 j4 j5 q q' a1 a2 a3 a4 a5 b1 b2 b3 b4 b5:Bool} (hi:roIt l u o=⟨i1,i2,i3,i4,i5⟩) (hj:roIt l o u=⟨j1,j2,j3,j4,j5⟩) (hq:(l.any fun x => entIs x ⟨u,o,It.zero⟩)=q) (hq':(l.any fun x => entIs x ⟨o,u,It.zero⟩)=q') (hk:(Lit.int .i64 k).wf=true) (hact:suAct ⟨i1,i2,i3,i4,i5⟩ ⟨j1,j2,j3,j4,j5⟩ k=(⟨a1,a2,a3,a4,a5⟩,⟨b1,b2,b3,b4,b5⟩,0)) (hf:q=true) (ga:suEmpty ⟨a1,a2,a3,a4,a5⟩=true) (gb:suEmpty ⟨b1,b2,b3,b4,b5⟩=true) :
  Calls Tryz.prog 82 #[v,.int .i64 k,.string ⟨u.toArray⟩,.string ⟨o.toArray⟩] w fun e w' => ∃ v',e=.returned (.tuple #[v',.int .i64 0])∧Ents w' v' (dropO entIs (dropO entIs l ⟨u,o,⟨a1,a2,a3,a4,a5⟩⟩) ⟨o,u,⟨b1,b2,b3,b4,b5⟩⟩)∧Below w.heap.size w w':=by
 subst hf
 have GA:=hD (sempty_eq a1 a2 a3 a4 a5 ga)
 have GB:=hD (sempty_eq b1 b2 b3 b4 b5 gb)
 clear ga gb
 have HV:=hD hv
 have HM:=hD (romay_any hv hs (hD hm))
 have HR:=hD (roMay_rise hm)
 have I1:=hD (is_eq u hu (hD h1))
 have I2:=hD (is_eq o ho (hD h2))
 have E1:=hD (entry_any u o)
 have E2:=hD (entry_any o u)
 have FI:=hD hi
 have FJ:=hD hj
 have FQ:=hD hq
 have FQ':=hD hq'
 have HA:=hD (sact_any i1 i2 i3 i4 i5 j1 j2 j3 j4 j5 k hk)
 rw [hact] at HA
 obtain⟨a,cap,rfl,hmx⟩:=hv.open'
 clear hv hs hm h1 h2 hi hj hq hq' hk hact
 go_enter Tryz.func82,Tryz.ntmps82
 go_wp2_with fail
 refine HM.out.mono ?_
 rintro e w1 ⟨rfl,b1⟩
 have HB:=hD b1
 clear b1
 go_wp2_with fail
 refine (I1.out _).mono ?_
 rintro e w2 ⟨rfl,b⟩
 replace HB:=hD (below2S HB.out b)
 clear b
 go_wp2_with fail
 refine (I2.out _).mono ?_
 rintro e w3 ⟨rfl,b⟩
 replace HB:=hD (below2S HB.out b)
 clear b
 go_wp2_with fail
 refine (E1.out _).mono ?_
 rintro e w4 ⟨rfl,b⟩
 replace HB:=hD (below2S HB.out b)
 clear b
 go_wp2_with fail
 refine (rfind_eq (HV.out.later HB.out) HR.out u o FI FQ).mono ?_
 rintro e w5 ⟨rfl,b⟩
 have bb:=bl_newZ w5 (.cells #[.string ⟨u.toArray⟩,.string ⟨o.toArray⟩,.bool i1,.bool i2,.bool i3,.bool i4,.bool i5] 126)
 have X10:=hD (heap_newR w5 (.cells #[.string ⟨u.toArray⟩,.string ⟨o.toArray⟩,.bool i1,.bool i2,.bool i3,.bool i4,.bool i5] 126) rfl)
 have HS5:=hD (below2S HB.out b).size
 replace HB:=hD (below2S (below2S HB.out b) bb)
 clear b bb
 go_wp2_with fail
 generalize hW:w5.alloc (.cells #[.string ⟨u.toArray⟩,.string ⟨o.toArray⟩,.bool i1,.bool i2,.bool i3,.bool i4,.bool i5] 126)=w6 at HB X10 ⊢
 generalize hN:w5.heap.size=n5 at X10 HS5 ⊢
 clear hW hN
 refine (E2.out _).mono ?_
 rintro e w7 ⟨rfl,b⟩
 replace X10:=hD (heap_laterR X10.out b)
 replace HB:=hD (below2S HB.out b)
 clear b
 go_wp2_with fail
 refine (rfind_eq (HV.out.later HB.out) HR.out o u FJ FQ').mono ?_
 rintro e w8 ⟨rfl,b⟩
 have bb:=bl_newZ w8 (.cells #[.string ⟨o.toArray⟩,.string ⟨u.toArray⟩,.bool j1,.bool j2,.bool j3,.bool j4,.bool j5] 126)
 have X12:=hD (heap_newR w8 (.cells #[.string ⟨o.toArray⟩,.string ⟨u.toArray⟩,.bool j1,.bool j2,.bool j3,.bool j4,.bool j5] 126) rfl)
 have HS8:=hD (below2S HB.out b).size
 replace X10:=hD (heap_laterR X10.out b)
 have hne:=hD (heap_ltR X10.out)
 replace X10:=hD (heap_laterR X10.out bb)
 replace HB:=hD (below2S (below2S HB.out b) bb)
 clear b bb
 obtain⟨c0,c1,c2,c3,c4,c5,c6⟩:=e7_cells X10.out
 obtain⟨d0,d1,d2,d3,d4,d5,d6⟩:=e7_cells X12.out
 simp only [Nat.zero_add] at c0 c1 c2 c3 c4 c5 c6 d0 d1 d2 d3 d4 d5 d6
 go_wp2_with fail
 generalize hW:w8.alloc (.cells #[.string ⟨o.toArray⟩,.string ⟨u.toArray⟩,.bool j1,.bool j2,.bool j3,.bool j4,.bool j5] 126)=w9 at HB X10 X12 c0 c1 c2 c3 c4 c5 c6 d0 d1 d2 d3 d4 d5 d6 ⊢
 generalize hN:w8.heap.size=n8 at X12 HS8 hne d0 d1 d2 d3 d4 d5 d6 ⊢
 clear hW hN c0 c1 c2 c3 c4 c5 c6 d0 d1 d2 d3 d4 d5 d6
 refine (HA.out _).mono ?_
 rintro e w10 ⟨rfl,b⟩
 replace X10:=hD (heap_laterR X10.out b)
 replace X12:=hD (heap_laterR X12.out b)
 replace HB:=hD (below2S HB.out b)
 clear b
 have hne1:n5 ≠ n8:=by have:=hne.out; omega
 have Y12:=e7_other X12.out hne1 a1 a2 a3 a4 a5
 have Y10:=e7_set X10.out a1 a2 a3 a4 a5
 have Z12:=hD (e7_set Y12 b1 b2 b3 b4 b5)
 have Z10:=hD (e7_other Y10 hne1.symm b1 b2 b3 b4 b5)
 have ZB:=hD (setI_below (setI_below HB.out HS5.out a1 a2 a3 a4 a5) HS8.out b1 b2 b3 b4 b5)
 obtain⟨c0,c1,c2,c3,c4,c5,c6⟩:=e7_cells X10.out
 obtain⟨d0,d1,d2,d3,d4,d5,d6⟩:=e7_cells Y12
 simp only [Nat.zero_add] at c0 c1 c2 c3 c4 c5 c6 d0 d1 d2 d3 d4 d5 d6
 have f2:=e7_frozen X10.out 2
 have f3:=e7_frozen X10.out 3
 have f4:=e7_frozen X10.out 4
 have f5:=e7_frozen X10.out 5
 have f6:=e7_frozen X10.out 6
 have g2:=e7_frozen Y12 2
 have g3:=e7_frozen Y12 3
 have g4:=e7_frozen Y12 4
 have g5:=e7_frozen Y12 5
 have g6:=e7_frozen Y12 6
 unfold setI at d0 d1 d2 d3 d4 d5 d6 g2 g3 g4 g5 g6
 clear Y10 Y12
 unfold actE
 obtain⟨e0,e1,e2,e3,e4,e5,e6⟩:=e7_cells Z10.out
 obtain⟨p0,p1,p2,p3,p4,p5,p6⟩:=e7_cells Z12.out
 simp only [Nat.zero_add] at e0 e1 e2 e3 e4 e5 e6 p0 p1 p2 p3 p4 p5 p6
 unfold setI at e0 e1 e2 e3 e4 e5 e6 p0 p1 p2 p3 p4 p5 p6
 replace X10:=Z10
 replace X12:=Z12
 replace HB:=ZB
 clear Z10 Z12 ZB
 go_wp2_with fail
 clear c0 c1 c2 c3 c4 c5 c6 d0 d1 d2 d3 d4 d5 d6 f2 f3 f4 f5 f6 g2 g3 g4 g5 g6 e0 e1 e2 e3 e4 e5 e6 p0 p1 p2 p3 p4 p5 p6 HA FI FJ FQ FQ' HM I1 I2 E1 E2
 refine (GA.out _).mono ?_
 rintro e w14 ⟨rfl,b⟩
 replace X10:=hD (heap_laterR X10.out b)
 replace X12:=hD (heap_laterR X12.out b)
 replace HB:=hD (below2S HB.out b)
 clear b
 obtain⟨e0,e1,e2,e3,e4,e5,e6⟩:=e7_cells X10.out
 obtain⟨p0,p1,p2,p3,p4,p5,p6⟩:=e7_cells X12.out
 simp only [Nat.zero_add] at e0 e1 e2 e3 e4 e5 e6 p0 p1 p2 p3 p4 p5 p6
 go_wp2_with fail
 clear e0 e1 e2 e3 e4 e5 e6 p0 p1 p2 p3 p4 p5 p6
 refine (GB.out _).mono ?_
 rintro e w15 ⟨rfl,b⟩
 replace X10:=hD (heap_laterR X10.out b)
 replace X12:=hD (heap_laterR X12.out b)
 replace HB:=hD (below2S HB.out b)
 clear b
 go_wp2_with fail
 have hS0:=two7 X10.out X12.out
 refine wp_region_held_drew (S:=(fun W => ((W).cell? ⟨n5,0,none⟩=some (.string ⟨u.toArray⟩)∧(W).cell? ⟨n5,1,none⟩=some (.string ⟨o.toArray⟩)∧(W).cell? ⟨n5,2,none⟩=some (.bool a1)∧(W).cell? ⟨n5,3,none⟩=some (.bool a2)∧(W).cell? ⟨n5,4,none⟩=some (.bool a3)∧(W).cell? ⟨n5,5,none⟩=some (.bool a4)∧(W).cell? ⟨n5,6,none⟩=some (.bool a5)∧(W).cell? ⟨n8,0,none⟩=some (.string ⟨o.toArray⟩)∧(W).cell? ⟨n8,1,none⟩=some (.string ⟨u.toArray⟩)∧(W).cell? ⟨n8,2,none⟩=some (.bool b1)∧(W).cell? ⟨n8,3,none⟩=some (.bool b2)∧(W).cell? ⟨n8,4,none⟩=some (.bool b3)∧(W).cell? ⟨n8,5,none⟩=some (.bool b4)∧(W).cell? ⟨n8,6,none⟩=some (.bool b5)))) (by kernel_rfl) ?_ (fun hHeld => ?_)
 ·exact two7 (heap_laterR X10.out (Below.refl _ _).drew) (heap_laterR X12.out (Below.refl _ _).drew)
 refine wpAnyH_take (i:=0) (oi:=⟨some 87,.move (.tmp 0),22,"rost.go:51",#[],none⟩) (v:=?_) rfl (by as_aux_lemma => kernel_rfl) (by as_aux_lemma => kernel_rfl) (by as_aux_lemma => kernel_rfl) (fun _ _ _ h => h) (Or.inl ⟨by rfl,?_⟩) (by assumption) ?_
 rotate_left
 ·intro w' hSw
  try dsimp only at hSw
  go_simp
  try with_reducible rfl
 try simp only [Act.put,List.setIfInBounds_toArray,List.set_cons_zero,List.set_cons_succ]
 refine wpAnyH_take (i:=1) (oi:=⟨some 88,.load 126 (.tmp 10),126,"rost.go:51",#[],none⟩) (v:=?_) rfl (by as_aux_lemma => kernel_rfl) (by as_aux_lemma => kernel_rfl) (by as_aux_lemma => kernel_rfl) (fun _ _ _ h => h) (Or.inl ⟨by rfl,?_⟩) (by assumption) ?_
 rotate_left
 ·intro w' hSw
  try dsimp only at hSw
  go_simp
  try with_reducible rfl
 try simp only [Act.put,List.setIfInBounds_toArray,List.set_cons_zero,List.set_cons_succ]
 refine wpAnyH_take (i:=3) (oi:=⟨some 90,.load 126 (.tmp 12),126,"rost.go:51",#[],none⟩) (v:=?_) rfl (by as_aux_lemma => kernel_rfl) (by as_aux_lemma => kernel_rfl) (by as_aux_lemma => kernel_rfl) (fun _ _ _ h => h) (Or.inl ⟨by rfl,?_⟩) (by assumption) ?_
 rotate_left
 ·intro w' hSw
  try dsimp only at hSw
  go_simp
  try with_reducible rfl
 try simp only [Act.put,List.setIfInBounds_toArray,List.set_cons_zero,List.set_cons_succ]
 refine wpAnyH_ready (rs:=[2]) (by as_aux_lemma => kernel_rfl) (by simp) ?_
 refine AllReadyH.cons (o:=⟨some 89,.call { callee:=.value (.func 148),args:=#[.tmp 87,.tmp 88],argTypes:=#[22,126] },22,"rost.go:51",#[⟨0,.data⟩,⟨1,.data⟩],none⟩) rfl (fun Kx hK => ?_) AllReadyH.nil
 go_simp
 refine (rwithout_any ((HV.out.later HB.out).later (Below.refl _ _).drew) (by omega) u o a1 a2 a3 a4 a5).mono ?_
 rintro e wA ⟨y,rfl,hy,bA⟩
 have bd:=below2Z (Below.refl _ _).drew bA
 have HY:=hD hy
 have YA:=hD (hy.rd entOK).ents
 have X10A:=hD (heap_laterR X10.out bd)
 have X12A:=hD (heap_laterR X12.out bd)
 have HBA:=hD (below2S HB.out bd)
 clear bd hy bA
 go_wp2_with fail
 refine hK.out _ _ ?_ (fun hHeld2 => ?_)
 ·exact two7 X10A.out X12A.out
 clear hK Kx hHeld
 have hHeld:=hHeld2
 clear hHeld2
 try simp only [Act.put,List.setIfInBounds_toArray,List.set_cons_zero,List.set_cons_succ]
 refine wpAnyH_ready (rs:=[4]) (by as_aux_lemma => kernel_rfl) (by simp) ?_
 refine AllReadyH.cons (o:=⟨some 91,.call { callee:=.value (.func 148),args:=#[.tmp 89,.tmp 90],argTypes:=#[22,126] },22,"rost.go:51",#[⟨2,.data⟩,⟨3,.data⟩,⟨2,.chain⟩],none⟩) rfl (fun Kx hK => ?_) AllReadyH.nil
 go_simp
 refine (rwithout_any YA.out (by have:=dropO_le l ⟨u,o,⟨a1,a2,a3,a4,a5⟩⟩; omega) o u b1 b2 b3 b4 b5).mono ?_
 rintro e wB ⟨z,rfl,hz,bB⟩
 have ZE:=hD (hz.rd entOK).ents
 have X10B:=hD (heap_laterR X10A.out bB)
 have X12B:=hD (heap_laterR X12A.out bB)
 have HBB:=hD (below2S HBA.out bB)
 clear hz bB
 go_wp2_with fail
 refine hK.out _ _ ?_ (fun hHeld2 => ?_)
 ·exact two7 X10B.out X12B.out
 clear hK Kx hHeld
 have hHeld:=hHeld2
 clear hHeld2
 try simp only [Act.put,List.setIfInBounds_toArray,List.set_cons_zero,List.set_cons_succ]
 refine wpAnyH_take (i:=5) (oi:=⟨some 8,.assign (.tmp 91),22,"rost.go:51",#[⟨4,.data⟩,⟨4,.chain⟩,⟨0,.phase⟩,⟨1,.phase⟩,⟨2,.phase⟩,⟨3,.phase⟩,⟨4,.phase⟩],none⟩) (v:=?_) rfl (by as_aux_lemma => kernel_rfl) (by as_aux_lemma => kernel_rfl) (by as_aux_lemma => kernel_rfl) (fun _ _ _ h => h) (Or.inl ⟨by rfl,?_⟩) (by assumption) ?_
 rotate_left
 ·intro w' hSw
  try dsimp only at hSw
  go_simp
  try with_reducible rfl
 try simp only [Act.put,List.setIfInBounds_toArray,List.set_cons_zero,List.set_cons_succ]
 refine wpAnyH_take (i:=6) (oi:=⟨some 9,.assign (.const (.int .i64 0)),52,"rost.go:51",#[⟨5,.chain⟩,⟨0,.phase⟩,⟨1,.phase⟩,⟨2,.phase⟩,⟨3,.phase⟩,⟨4,.phase⟩,⟨5,.phase⟩],none⟩) (v:=?_) rfl (by as_aux_lemma => kernel_rfl) (by as_aux_lemma => kernel_rfl) (by as_aux_lemma => kernel_rfl) (fun _ _ _ h => h) (Or.inl ⟨by rfl,?_⟩) (by assumption) ?_
 rotate_left
 ·intro w' hSw
  try dsimp only at hSw
  go_simp
  try with_reducible rfl
 try simp only [Act.put,List.setIfInBounds_toArray,List.set_cons_zero,List.set_cons_succ]
 refine wpAnyH_done (by kernel_rfl) ?_ _
 go_wp2_with fail
 go_ret2
 exact⟨_,rfl,ZE.out,HBB.out⟩

theorem rdoG2 {w:World} {v:Value} {l:List Ent} (hv:Ents w v l) (hs:ShortE l) (hl:l.length≤900) (u o:List UInt8) (hu:u.length≤4294967296) (ho:o.length≤4294967296) (k:Int) (hm:roMayC l=true) (h1:idIs u=true) (h2:idIs o=true) (h3:(u == o)=false) {i1 i2 i3 i4 i5 j1 j2 j3 j4 j5 q q' a1 a2 a3 a4 a5 b1 b2 b3 b4 b5:Bool} (hi:roIt l u o=⟨i1,i2,i3,i4,i5⟩) (hj:roIt l o u=⟨j1,j2,j3,j4,j5⟩) (hq:(l.any fun x => entIs x ⟨u,o,It.zero⟩)=q) (hq':(l.any fun x => entIs x ⟨o,u,It.zero⟩)=q') (hk:(Lit.int .i64 k).wf=true) (hact:suAct ⟨i1,i2,i3,i4,i5⟩ ⟨j1,j2,j3,j4,j5⟩ k=(⟨a1,a2,a3,a4,a5⟩,⟨b1,b2,b3,b4,b5⟩,0)) (hf:q=false) (gu:decide (16≤(roOf l u).length)=false) (go:decide (16≤(roOf l o).length)=false) (ga:suEmpty ⟨a1,a2,a3,a4,a5⟩=true) (gb:suEmpty ⟨b1,b2,b3,b4,b5⟩=true) :
  Calls Tryz.prog 82 #[v,.int .i64 k,.string ⟨u.toArray⟩,.string ⟨o.toArray⟩] w fun e w' => ∃ v',e=.returned (.tuple #[v',.int .i64 0])∧Ents w' v' (dropO entIs (dropO entIs l ⟨u,o,⟨a1,a2,a3,a4,a5⟩⟩) ⟨o,u,⟨b1,b2,b3,b4,b5⟩⟩)∧Below w.heap.size w w':=by
 subst hf
 have GU:=hD gu
 have GO:=hD go
 clear gu go
 have GA:=hD (sempty_eq a1 a2 a3 a4 a5 ga)
 have GB:=hD (sempty_eq b1 b2 b3 b4 b5 gb)
 clear ga gb
 have HV:=hD hv
 have HM:=hD (romay_any hv hs (hD hm))
 have HR:=hD (roMay_rise hm)
 have I1:=hD (is_eq u hu (hD h1))
 have I2:=hD (is_eq o ho (hD h2))
 have E1:=hD (entry_any u o)
 have E2:=hD (entry_any o u)
 have FI:=hD hi
 have FJ:=hD hj
 have FQ:=hD hq
 have FQ':=hD hq'
 have HA:=hD (sact_any i1 i2 i3 i4 i5 j1 j2 j3 j4 j5 k hk)
 rw [hact] at HA
 obtain⟨a,cap,rfl,hmx⟩:=hv.open'
 clear hv hs hm h1 h2 hi hj hq hq' hk hact
 go_enter Tryz.func82,Tryz.ntmps82
 go_wp2_with fail
 refine HM.out.mono ?_
 rintro e w1 ⟨rfl,b1⟩
 have HB:=hD b1
 clear b1
 go_wp2_with fail
 refine (I1.out _).mono ?_
 rintro e w2 ⟨rfl,b⟩
 replace HB:=hD (below2S HB.out b)
 clear b
 go_wp2_with fail
 refine (I2.out _).mono ?_
 rintro e w3 ⟨rfl,b⟩
 replace HB:=hD (below2S HB.out b)
 clear b
 go_wp2_with fail
 refine (E1.out _).mono ?_
 rintro e w4 ⟨rfl,b⟩
 replace HB:=hD (below2S HB.out b)
 clear b
 go_wp2_with fail
 refine (rfind_eq (HV.out.later HB.out) HR.out u o FI FQ).mono ?_
 rintro e w5 ⟨rfl,b⟩
 have bb:=bl_newZ w5 (.cells #[.string ⟨u.toArray⟩,.string ⟨o.toArray⟩,.bool i1,.bool i2,.bool i3,.bool i4,.bool i5] 126)
 have X10:=hD (heap_newR w5 (.cells #[.string ⟨u.toArray⟩,.string ⟨o.toArray⟩,.bool i1,.bool i2,.bool i3,.bool i4,.bool i5] 126) rfl)
 have HS5:=hD (below2S HB.out b).size
 replace HB:=hD (below2S (below2S HB.out b) bb)
 clear b bb
 go_wp2_with fail
 generalize hW:w5.alloc (.cells #[.string ⟨u.toArray⟩,.string ⟨o.toArray⟩,.bool i1,.bool i2,.bool i3,.bool i4,.bool i5] 126)=w6 at HB X10 ⊢
 generalize hN:w5.heap.size=n5 at X10 HS5 ⊢
 clear hW hN
 refine (E2.out _).mono ?_
 rintro e w7 ⟨rfl,b⟩
 replace X10:=hD (heap_laterR X10.out b)
 replace HB:=hD (below2S HB.out b)
 clear b
 go_wp2_with fail
 refine (rfind_eq (HV.out.later HB.out) HR.out o u FJ FQ').mono ?_
 rintro e w8 ⟨rfl,b⟩
 have bb:=bl_newZ w8 (.cells #[.string ⟨o.toArray⟩,.string ⟨u.toArray⟩,.bool j1,.bool j2,.bool j3,.bool j4,.bool j5] 126)
 have X12:=hD (heap_newR w8 (.cells #[.string ⟨o.toArray⟩,.string ⟨u.toArray⟩,.bool j1,.bool j2,.bool j3,.bool j4,.bool j5] 126) rfl)
 have HS8:=hD (below2S HB.out b).size
 replace X10:=hD (heap_laterR X10.out b)
 have hne:=hD (heap_ltR X10.out)
 replace X10:=hD (heap_laterR X10.out bb)
 replace HB:=hD (below2S (below2S HB.out b) bb)
 clear b bb
 obtain⟨c0,c1,c2,c3,c4,c5,c6⟩:=e7_cells X10.out
 obtain⟨d0,d1,d2,d3,d4,d5,d6⟩:=e7_cells X12.out
 simp only [Nat.zero_add] at c0 c1 c2 c3 c4 c5 c6 d0 d1 d2 d3 d4 d5 d6
 go_wp2_with fail
 generalize hW:w8.alloc (.cells #[.string ⟨o.toArray⟩,.string ⟨u.toArray⟩,.bool j1,.bool j2,.bool j3,.bool j4,.bool j5] 126)=w9 at HB X10 X12 c0 c1 c2 c3 c4 c5 c6 d0 d1 d2 d3 d4 d5 d6 ⊢
 generalize hN:w8.heap.size=n8 at X12 HS8 hne d0 d1 d2 d3 d4 d5 d6 ⊢
 clear hW hN c0 c1 c2 c3 c4 c5 c6 d0 d1 d2 d3 d4 d5 d6
 refine (HA.out _).mono ?_
 rintro e w10 ⟨rfl,b⟩
 replace X10:=hD (heap_laterR X10.out b)
 replace X12:=hD (heap_laterR X12.out b)
 replace HB:=hD (below2S HB.out b)
 clear b
 have hne1:n5 ≠ n8:=by have:=hne.out; omega
 have Y12:=e7_other X12.out hne1 a1 a2 a3 a4 a5
 have Y10:=e7_set X10.out a1 a2 a3 a4 a5
 have Z12:=hD (e7_set Y12 b1 b2 b3 b4 b5)
 have Z10:=hD (e7_other Y10 hne1.symm b1 b2 b3 b4 b5)
 have ZB:=hD (setI_below (setI_below HB.out HS5.out a1 a2 a3 a4 a5) HS8.out b1 b2 b3 b4 b5)
 obtain⟨c0,c1,c2,c3,c4,c5,c6⟩:=e7_cells X10.out
 obtain⟨d0,d1,d2,d3,d4,d5,d6⟩:=e7_cells Y12
 simp only [Nat.zero_add] at c0 c1 c2 c3 c4 c5 c6 d0 d1 d2 d3 d4 d5 d6
 have f2:=e7_frozen X10.out 2
 have f3:=e7_frozen X10.out 3
 have f4:=e7_frozen X10.out 4
 have f5:=e7_frozen X10.out 5
 have f6:=e7_frozen X10.out 6
 have g2:=e7_frozen Y12 2
 have g3:=e7_frozen Y12 3
 have g4:=e7_frozen Y12 4
 have g5:=e7_frozen Y12 5
 have g6:=e7_frozen Y12 6
 unfold setI at d0 d1 d2 d3 d4 d5 d6 g2 g3 g4 g5 g6
 clear Y10 Y12
 unfold actE
 obtain⟨e0,e1,e2,e3,e4,e5,e6⟩:=e7_cells Z10.out
 obtain⟨p0,p1,p2,p3,p4,p5,p6⟩:=e7_cells Z12.out
 simp only [Nat.zero_add] at e0 e1 e2 e3 e4 e5 e6 p0 p1 p2 p3 p4 p5 p6
 unfold setI at e0 e1 e2 e3 e4 e5 e6 p0 p1 p2 p3 p4 p5 p6
 replace X10:=Z10
 replace X12:=Z12
 replace HB:=ZB
 clear Z10 Z12 ZB
 go_wp2_with fail
 clear c0 c1 c2 c3 c4 c5 c6 d0 d1 d2 d3 d4 d5 d6 f2 f3 f4 f5 f6 g2 g3 g4 g5 g6 e0 e1 e2 e3 e4 e5 e6 p0 p1 p2 p3 p4 p5 p6 HA FI FJ FQ FQ' HM I1 I2 E1 E2
 refine (risFull_any (HV.out.later HB.out) (by omega) u GU).mono ?_
 rintro e w12 ⟨rfl,b⟩
 replace X10:=hD (heap_laterR X10.out b)
 replace X12:=hD (heap_laterR X12.out b)
 replace HB:=hD (below2S HB.out b)
 clear b
 go_wp2_with fail
 refine (risFull_any (HV.out.later HB.out) (by omega) o GO).mono ?_
 rintro e w13 ⟨rfl,b⟩
 replace X10:=hD (heap_laterR X10.out b)
 replace X12:=hD (heap_laterR X12.out b)
 replace HB:=hD (below2S HB.out b)
 clear b
 obtain⟨e0,e1,e2,e3,e4,e5,e6⟩:=e7_cells X10.out
 obtain⟨p0,p1,p2,p3,p4,p5,p6⟩:=e7_cells X12.out
 simp only [Nat.zero_add] at e0 e1 e2 e3 e4 e5 e6 p0 p1 p2 p3 p4 p5 p6
 go_wp2_with fail
 clear e0 e1 e2 e3 e4 e5 e6 p0 p1 p2 p3 p4 p5 p6
 refine (GA.out _).mono ?_
 rintro e w14 ⟨rfl,b⟩
 replace X10:=hD (heap_laterR X10.out b)
 replace X12:=hD (heap_laterR X12.out b)
 replace HB:=hD (below2S HB.out b)
 clear b
 obtain⟨e0,e1,e2,e3,e4,e5,e6⟩:=e7_cells X10.out
 obtain⟨p0,p1,p2,p3,p4,p5,p6⟩:=e7_cells X12.out
 simp only [Nat.zero_add] at e0 e1 e2 e3 e4 e5 e6 p0 p1 p2 p3 p4 p5 p6
 go_wp2_with fail
 clear e0 e1 e2 e3 e4 e5 e6 p0 p1 p2 p3 p4 p5 p6
 refine (GB.out _).mono ?_
 rintro e w15 ⟨rfl,b⟩
 replace X10:=hD (heap_laterR X10.out b)
 replace X12:=hD (heap_laterR X12.out b)
 replace HB:=hD (below2S HB.out b)
 clear b
 go_wp2_with fail
 have hS0:=two7 X10.out X12.out
 refine wp_region_held_drew (S:=(fun W => ((W).cell? ⟨n5,0,none⟩=some (.string ⟨u.toArray⟩)∧(W).cell? ⟨n5,1,none⟩=some (.string ⟨o.toArray⟩)∧(W).cell? ⟨n5,2,none⟩=some (.bool a1)∧(W).cell? ⟨n5,3,none⟩=some (.bool a2)∧(W).cell? ⟨n5,4,none⟩=some (.bool a3)∧(W).cell? ⟨n5,5,none⟩=some (.bool a4)∧(W).cell? ⟨n5,6,none⟩=some (.bool a5)∧(W).cell? ⟨n8,0,none⟩=some (.string ⟨o.toArray⟩)∧(W).cell? ⟨n8,1,none⟩=some (.string ⟨u.toArray⟩)∧(W).cell? ⟨n8,2,none⟩=some (.bool b1)∧(W).cell? ⟨n8,3,none⟩=some (.bool b2)∧(W).cell? ⟨n8,4,none⟩=some (.bool b3)∧(W).cell? ⟨n8,5,none⟩=some (.bool b4)∧(W).cell? ⟨n8,6,none⟩=some (.bool b5)))) (by kernel_rfl) ?_ (fun hHeld => ?_)
 ·exact two7 (heap_laterR X10.out (Below.refl _ _).drew) (heap_laterR X12.out (Below.refl _ _).drew)
 refine wpAnyH_take (i:=0) (oi:=⟨some 87,.move (.tmp 0),22,"rost.go:51",#[],none⟩) (v:=?_) rfl (by as_aux_lemma => kernel_rfl) (by as_aux_lemma => kernel_rfl) (by as_aux_lemma => kernel_rfl) (fun _ _ _ h => h) (Or.inl ⟨by rfl,?_⟩) (by assumption) ?_
 rotate_left
 ·intro w' hSw
  try dsimp only at hSw
  go_simp
  try with_reducible rfl
 try simp only [Act.put,List.setIfInBounds_toArray,List.set_cons_zero,List.set_cons_succ]
 refine wpAnyH_take (i:=1) (oi:=⟨some 88,.load 126 (.tmp 10),126,"rost.go:51",#[],none⟩) (v:=?_) rfl (by as_aux_lemma => kernel_rfl) (by as_aux_lemma => kernel_rfl) (by as_aux_lemma => kernel_rfl) (fun _ _ _ h => h) (Or.inl ⟨by rfl,?_⟩) (by assumption) ?_
 rotate_left
 ·intro w' hSw
  try dsimp only at hSw
  go_simp
  try with_reducible rfl
 try simp only [Act.put,List.setIfInBounds_toArray,List.set_cons_zero,List.set_cons_succ]
 refine wpAnyH_take (i:=3) (oi:=⟨some 90,.load 126 (.tmp 12),126,"rost.go:51",#[],none⟩) (v:=?_) rfl (by as_aux_lemma => kernel_rfl) (by as_aux_lemma => kernel_rfl) (by as_aux_lemma => kernel_rfl) (fun _ _ _ h => h) (Or.inl ⟨by rfl,?_⟩) (by assumption) ?_
 rotate_left
 ·intro w' hSw
  try dsimp only at hSw
  go_simp
  try with_reducible rfl
 try simp only [Act.put,List.setIfInBounds_toArray,List.set_cons_zero,List.set_cons_succ]
 refine wpAnyH_ready (rs:=[2]) (by as_aux_lemma => kernel_rfl) (by simp) ?_
 refine AllReadyH.cons (o:=⟨some 89,.call { callee:=.value (.func 148),args:=#[.tmp 87,.tmp 88],argTypes:=#[22,126] },22,"rost.go:51",#[⟨0,.data⟩,⟨1,.data⟩],none⟩) rfl (fun Kx hK => ?_) AllReadyH.nil
 go_simp
 refine (rwithout_any ((HV.out.later HB.out).later (Below.refl _ _).drew) (by omega) u o a1 a2 a3 a4 a5).mono ?_
 rintro e wA ⟨y,rfl,hy,bA⟩
 have bd:=below2Z (Below.refl _ _).drew bA
 have HY:=hD hy
 have YA:=hD (hy.rd entOK).ents
 have X10A:=hD (heap_laterR X10.out bd)
 have X12A:=hD (heap_laterR X12.out bd)
 have HBA:=hD (below2S HB.out bd)
 clear bd hy bA
 go_wp2_with fail
 refine hK.out _ _ ?_ (fun hHeld2 => ?_)
 ·exact two7 X10A.out X12A.out
 clear hK Kx hHeld
 have hHeld:=hHeld2
 clear hHeld2
 try simp only [Act.put,List.setIfInBounds_toArray,List.set_cons_zero,List.set_cons_succ]
 refine wpAnyH_ready (rs:=[4]) (by as_aux_lemma => kernel_rfl) (by simp) ?_
 refine AllReadyH.cons (o:=⟨some 91,.call { callee:=.value (.func 148),args:=#[.tmp 89,.tmp 90],argTypes:=#[22,126] },22,"rost.go:51",#[⟨2,.data⟩,⟨3,.data⟩,⟨2,.chain⟩],none⟩) rfl (fun Kx hK => ?_) AllReadyH.nil
 go_simp
 refine (rwithout_any YA.out (by have:=dropO_le l ⟨u,o,⟨a1,a2,a3,a4,a5⟩⟩; omega) o u b1 b2 b3 b4 b5).mono ?_
 rintro e wB ⟨z,rfl,hz,bB⟩
 have ZE:=hD (hz.rd entOK).ents
 have X10B:=hD (heap_laterR X10A.out bB)
 have X12B:=hD (heap_laterR X12A.out bB)
 have HBB:=hD (below2S HBA.out bB)
 clear hz bB
 go_wp2_with fail
 refine hK.out _ _ ?_ (fun hHeld2 => ?_)
 ·exact two7 X10B.out X12B.out
 clear hK Kx hHeld
 have hHeld:=hHeld2
 clear hHeld2
 try simp only [Act.put,List.setIfInBounds_toArray,List.set_cons_zero,List.set_cons_succ]
 refine wpAnyH_take (i:=5) (oi:=⟨some 8,.assign (.tmp 91),22,"rost.go:51",#[⟨4,.data⟩,⟨4,.chain⟩,⟨0,.phase⟩,⟨1,.phase⟩,⟨2,.phase⟩,⟨3,.phase⟩,⟨4,.phase⟩],none⟩) (v:=?_) rfl (by as_aux_lemma => kernel_rfl) (by as_aux_lemma => kernel_rfl) (by as_aux_lemma => kernel_rfl) (fun _ _ _ h => h) (Or.inl ⟨by rfl,?_⟩) (by assumption) ?_
 rotate_left
 ·intro w' hSw
  try dsimp only at hSw
  go_simp
  try with_reducible rfl
 try simp only [Act.put,List.setIfInBounds_toArray,List.set_cons_zero,List.set_cons_succ]
 refine wpAnyH_take (i:=6) (oi:=⟨some 9,.assign (.const (.int .i64 0)),52,"rost.go:51",#[⟨5,.chain⟩,⟨0,.phase⟩,⟨1,.phase⟩,⟨2,.phase⟩,⟨3,.phase⟩,⟨4,.phase⟩,⟨5,.phase⟩],none⟩) (v:=?_) rfl (by as_aux_lemma => kernel_rfl) (by as_aux_lemma => kernel_rfl) (by as_aux_lemma => kernel_rfl) (fun _ _ _ h => h) (Or.inl ⟨by rfl,?_⟩) (by assumption) ?_
 rotate_left
 ·intro w' hSw
  try dsimp only at hSw
  go_simp
  try with_reducible rfl
 try simp only [Act.put,List.setIfInBounds_toArray,List.set_cons_zero,List.set_cons_succ]
 refine wpAnyH_done (by kernel_rfl) ?_ _
 go_wp2_with fail
 go_ret2
 exact⟨_,rfl,ZE.out,HBB.out⟩

theorem rdoH1 {w:World} {v:Value} {l:List Ent} (hv:Ents w v l) (hs:ShortE l) (hl:l.length≤900) (u o:List UInt8) (hu:u.length≤4294967296) (ho:o.length≤4294967296) (k:Int) (hm:roMayC l=true) (h1:idIs u=true) (h2:idIs o=true) (h3:(u == o)=false) {i1 i2 i3 i4 i5 j1 j2 j3 j4 j5 q q' a1 a2 a3 a4 a5 b1 b2 b3 b4 b5:Bool} (hi:roIt l u o=⟨i1,i2,i3,i4,i5⟩) (hj:roIt l o u=⟨j1,j2,j3,j4,j5⟩) (hq:(l.any fun x => entIs x ⟨u,o,It.zero⟩)=q) (hq':(l.any fun x => entIs x ⟨o,u,It.zero⟩)=q') (hk:(Lit.int .i64 k).wf=true) (hact:suAct ⟨i1,i2,i3,i4,i5⟩ ⟨j1,j2,j3,j4,j5⟩ k=(⟨a1,a2,a3,a4,a5⟩,⟨b1,b2,b3,b4,b5⟩,0)) (hf:q=true) (ga:suEmpty ⟨a1,a2,a3,a4,a5⟩=false) :
  Calls Tryz.prog 82 #[v,.int .i64 k,.string ⟨u.toArray⟩,.string ⟨o.toArray⟩] w fun e w' => ∃ v',e=.returned (.tuple #[v',.int .i64 0])∧Ents w' v' (putO entLt entIs (putO entLt entIs l ⟨u,o,⟨a1,a2,a3,a4,a5⟩⟩) ⟨o,u,⟨b1,b2,b3,b4,b5⟩⟩)∧Below w.heap.size w w':=by
 subst hf
 have GA:=hD (sempty_eq a1 a2 a3 a4 a5 ga)
 clear ga
 have HV:=hD hv
 have HM:=hD (romay_any hv hs (hD hm))
 have HR:=hD (roMay_rise hm)
 have I1:=hD (is_eq u hu (hD h1))
 have I2:=hD (is_eq o ho (hD h2))
 have E1:=hD (entry_any u o)
 have E2:=hD (entry_any o u)
 have FI:=hD hi
 have FJ:=hD hj
 have FQ:=hD hq
 have FQ':=hD hq'
 have HA:=hD (sact_any i1 i2 i3 i4 i5 j1 j2 j3 j4 j5 k hk)
 rw [hact] at HA
 obtain⟨a,cap,rfl,hmx⟩:=hv.open'
 clear hv hs hm h1 h2 hi hj hq hq' hk hact
 go_enter Tryz.func82,Tryz.ntmps82
 go_wp2_with fail
 refine HM.out.mono ?_
 rintro e w1 ⟨rfl,b1⟩
 have HB:=hD b1
 clear b1
 go_wp2_with fail
 refine (I1.out _).mono ?_
 rintro e w2 ⟨rfl,b⟩
 replace HB:=hD (below2S HB.out b)
 clear b
 go_wp2_with fail
 refine (I2.out _).mono ?_
 rintro e w3 ⟨rfl,b⟩
 replace HB:=hD (below2S HB.out b)
 clear b
 go_wp2_with fail
 refine (E1.out _).mono ?_
 rintro e w4 ⟨rfl,b⟩
 replace HB:=hD (below2S HB.out b)
 clear b
 go_wp2_with fail
 refine (rfind_eq (HV.out.later HB.out) HR.out u o FI FQ).mono ?_
 rintro e w5 ⟨rfl,b⟩
 have bb:=bl_newZ w5 (.cells #[.string ⟨u.toArray⟩,.string ⟨o.toArray⟩,.bool i1,.bool i2,.bool i3,.bool i4,.bool i5] 126)
 have X10:=hD (heap_newR w5 (.cells #[.string ⟨u.toArray⟩,.string ⟨o.toArray⟩,.bool i1,.bool i2,.bool i3,.bool i4,.bool i5] 126) rfl)
 have HS5:=hD (below2S HB.out b).size
 replace HB:=hD (below2S (below2S HB.out b) bb)
 clear b bb
 go_wp2_with fail
 generalize hW:w5.alloc (.cells #[.string ⟨u.toArray⟩,.string ⟨o.toArray⟩,.bool i1,.bool i2,.bool i3,.bool i4,.bool i5] 126)=w6 at HB X10 ⊢
 generalize hN:w5.heap.size=n5 at X10 HS5 ⊢
 clear hW hN
 refine (E2.out _).mono ?_
 rintro e w7 ⟨rfl,b⟩
 replace X10:=hD (heap_laterR X10.out b)
 replace HB:=hD (below2S HB.out b)
 clear b
 go_wp2_with fail
 refine (rfind_eq (HV.out.later HB.out) HR.out o u FJ FQ').mono ?_
 rintro e w8 ⟨rfl,b⟩
 have bb:=bl_newZ w8 (.cells #[.string ⟨o.toArray⟩,.string ⟨u.toArray⟩,.bool j1,.bool j2,.bool j3,.bool j4,.bool j5] 126)
 have X12:=hD (heap_newR w8 (.cells #[.string ⟨o.toArray⟩,.string ⟨u.toArray⟩,.bool j1,.bool j2,.bool j3,.bool j4,.bool j5] 126) rfl)
 have HS8:=hD (below2S HB.out b).size
 replace X10:=hD (heap_laterR X10.out b)
 have hne:=hD (heap_ltR X10.out)
 replace X10:=hD (heap_laterR X10.out bb)
 replace HB:=hD (below2S (below2S HB.out b) bb)
 clear b bb
 obtain⟨c0,c1,c2,c3,c4,c5,c6⟩:=e7_cells X10.out
 obtain⟨d0,d1,d2,d3,d4,d5,d6⟩:=e7_cells X12.out
 simp only [Nat.zero_add] at c0 c1 c2 c3 c4 c5 c6 d0 d1 d2 d3 d4 d5 d6
 go_wp2_with fail
 generalize hW:w8.alloc (.cells #[.string ⟨o.toArray⟩,.string ⟨u.toArray⟩,.bool j1,.bool j2,.bool j3,.bool j4,.bool j5] 126)=w9 at HB X10 X12 c0 c1 c2 c3 c4 c5 c6 d0 d1 d2 d3 d4 d5 d6 ⊢
 generalize hN:w8.heap.size=n8 at X12 HS8 hne d0 d1 d2 d3 d4 d5 d6 ⊢
 clear hW hN c0 c1 c2 c3 c4 c5 c6 d0 d1 d2 d3 d4 d5 d6
 refine (HA.out _).mono ?_
 rintro e w10 ⟨rfl,b⟩
 replace X10:=hD (heap_laterR X10.out b)
 replace X12:=hD (heap_laterR X12.out b)
 replace HB:=hD (below2S HB.out b)
 clear b
 have hne1:n5 ≠ n8:=by have:=hne.out; omega
 have Y12:=e7_other X12.out hne1 a1 a2 a3 a4 a5
 have Y10:=e7_set X10.out a1 a2 a3 a4 a5
 have Z12:=hD (e7_set Y12 b1 b2 b3 b4 b5)
 have Z10:=hD (e7_other Y10 hne1.symm b1 b2 b3 b4 b5)
 have ZB:=hD (setI_below (setI_below HB.out HS5.out a1 a2 a3 a4 a5) HS8.out b1 b2 b3 b4 b5)
 obtain⟨c0,c1,c2,c3,c4,c5,c6⟩:=e7_cells X10.out
 obtain⟨d0,d1,d2,d3,d4,d5,d6⟩:=e7_cells Y12
 simp only [Nat.zero_add] at c0 c1 c2 c3 c4 c5 c6 d0 d1 d2 d3 d4 d5 d6
 have f2:=e7_frozen X10.out 2
 have f3:=e7_frozen X10.out 3
 have f4:=e7_frozen X10.out 4
 have f5:=e7_frozen X10.out 5
 have f6:=e7_frozen X10.out 6
 have g2:=e7_frozen Y12 2
 have g3:=e7_frozen Y12 3
 have g4:=e7_frozen Y12 4
 have g5:=e7_frozen Y12 5
 have g6:=e7_frozen Y12 6
 unfold setI at d0 d1 d2 d3 d4 d5 d6 g2 g3 g4 g5 g6
 clear Y10 Y12
 unfold actE
 obtain⟨e0,e1,e2,e3,e4,e5,e6⟩:=e7_cells Z10.out
 obtain⟨p0,p1,p2,p3,p4,p5,p6⟩:=e7_cells Z12.out
 simp only [Nat.zero_add] at e0 e1 e2 e3 e4 e5 e6 p0 p1 p2 p3 p4 p5 p6
 unfold setI at e0 e1 e2 e3 e4 e5 e6 p0 p1 p2 p3 p4 p5 p6
 replace X10:=Z10
 replace X12:=Z12
 replace HB:=ZB
 clear Z10 Z12 ZB
 go_wp2_with fail
 clear c0 c1 c2 c3 c4 c5 c6 d0 d1 d2 d3 d4 d5 d6 f2 f3 f4 f5 f6 g2 g3 g4 g5 g6 e0 e1 e2 e3 e4 e5 e6 p0 p1 p2 p3 p4 p5 p6 HA FI FJ FQ FQ' HM I1 I2 E1 E2
 refine (GA.out _).mono ?_
 rintro e w14 ⟨rfl,b⟩
 replace X10:=hD (heap_laterR X10.out b)
 replace X12:=hD (heap_laterR X12.out b)
 replace HB:=hD (below2S HB.out b)
 clear b
 obtain⟨e0,e1,e2,e3,e4,e5,e6⟩:=e7_cells X10.out
 obtain⟨p0,p1,p2,p3,p4,p5,p6⟩:=e7_cells X12.out
 simp only [Nat.zero_add] at e0 e1 e2 e3 e4 e5 e6 p0 p1 p2 p3 p4 p5 p6
 go_wp2_with fail
 clear e0 e1 e2 e3 e4 e5 e6 p0 p1 p2 p3 p4 p5 p6
 have hS0:=two7 X10.out X12.out
 refine wp_region_held_drew (S:=(fun W => ((W).cell? ⟨n5,0,none⟩=some (.string ⟨u.toArray⟩)∧(W).cell? ⟨n5,1,none⟩=some (.string ⟨o.toArray⟩)∧(W).cell? ⟨n5,2,none⟩=some (.bool a1)∧(W).cell? ⟨n5,3,none⟩=some (.bool a2)∧(W).cell? ⟨n5,4,none⟩=some (.bool a3)∧(W).cell? ⟨n5,5,none⟩=some (.bool a4)∧(W).cell? ⟨n5,6,none⟩=some (.bool a5)∧(W).cell? ⟨n8,0,none⟩=some (.string ⟨o.toArray⟩)∧(W).cell? ⟨n8,1,none⟩=some (.string ⟨u.toArray⟩)∧(W).cell? ⟨n8,2,none⟩=some (.bool b1)∧(W).cell? ⟨n8,3,none⟩=some (.bool b2)∧(W).cell? ⟨n8,4,none⟩=some (.bool b3)∧(W).cell? ⟨n8,5,none⟩=some (.bool b4)∧(W).cell? ⟨n8,6,none⟩=some (.bool b5)))) (by kernel_rfl) ?_ (fun hHeld => ?_)
 ·exact two7 (heap_laterR X10.out (Below.refl _ _).drew) (heap_laterR X12.out (Below.refl _ _).drew)
 refine wpAnyH_take (i:=0) (oi:=⟨some 92,.move (.tmp 0),22,"rost.go:53",#[],none⟩) (v:=?_) rfl (by as_aux_lemma => kernel_rfl) (by as_aux_lemma => kernel_rfl) (by as_aux_lemma => kernel_rfl) (fun _ _ _ h => h) (Or.inl ⟨by rfl,?_⟩) (by assumption) ?_
 rotate_left
 ·intro w' hSw
  try dsimp only at hSw
  go_simp
  try with_reducible rfl
 try simp only [Act.put,List.setIfInBounds_toArray,List.set_cons_zero,List.set_cons_succ]
 refine wpAnyH_take (i:=1) (oi:=⟨some 93,.load 126 (.tmp 10),126,"rost.go:53",#[],none⟩) (v:=?_) rfl (by as_aux_lemma => kernel_rfl) (by as_aux_lemma => kernel_rfl) (by as_aux_lemma => kernel_rfl) (fun _ _ _ h => h) (Or.inl ⟨by rfl,?_⟩) (by assumption) ?_
 rotate_left
 ·intro w' hSw
  try dsimp only at hSw
  go_simp
  try with_reducible rfl
 try simp only [Act.put,List.setIfInBounds_toArray,List.set_cons_zero,List.set_cons_succ]
 refine wpAnyH_take (i:=3) (oi:=⟨some 95,.load 126 (.tmp 12),126,"rost.go:53",#[],none⟩) (v:=?_) rfl (by as_aux_lemma => kernel_rfl) (by as_aux_lemma => kernel_rfl) (by as_aux_lemma => kernel_rfl) (fun _ _ _ h => h) (Or.inl ⟨by rfl,?_⟩) (by assumption) ?_
 rotate_left
 ·intro w' hSw
  try dsimp only at hSw
  go_simp
  try with_reducible rfl
 try simp only [Act.put,List.setIfInBounds_toArray,List.set_cons_zero,List.set_cons_succ]
 refine wpAnyH_ready (rs:=[2]) (by as_aux_lemma => kernel_rfl) (by simp) ?_
 refine AllReadyH.cons (o:=⟨some 94,.call { callee:=.value (.func 149),args:=#[.tmp 92,.tmp 93],argTypes:=#[22,126] },22,"rost.go:53",#[⟨0,.data⟩,⟨1,.data⟩],none⟩) rfl (fun Kx hK => ?_) AllReadyH.nil
 go_simp
 refine (rwith_any ((HV.out.later HB.out).later (Below.refl _ _).drew) HR.out (by omega) u o a1 a2 a3 a4 a5).mono ?_
 rintro e wA ⟨y,rfl,hy,bA⟩
 have bd:=below2Z (Below.refl _ _).drew bA
 have HY:=hD hy
 have YA:=hD (hy.rd entOK).ents
 have X10A:=hD (heap_laterR X10.out bd)
 have X12A:=hD (heap_laterR X12.out bd)
 have HBA:=hD (below2S HB.out bd)
 clear bd hy bA
 go_wp2_with fail
 refine hK.out _ _ ?_ (fun hHeld2 => ?_)
 ·exact two7 X10A.out X12A.out
 clear hK Kx hHeld
 have hHeld:=hHeld2
 clear hHeld2
 try simp only [Act.put,List.setIfInBounds_toArray,List.set_cons_zero,List.set_cons_succ]
 refine wpAnyH_ready (rs:=[4]) (by as_aux_lemma => kernel_rfl) (by simp) ?_
 refine AllReadyH.cons (o:=⟨some 96,.call { callee:=.value (.func 149),args:=#[.tmp 94,.tmp 95],argTypes:=#[22,126] },22,"rost.go:53",#[⟨2,.data⟩,⟨3,.data⟩,⟨2,.chain⟩],none⟩) rfl (fun Kx hK => ?_) AllReadyH.nil
 go_simp
 refine (rwith_any YA.out (rise_putO entOrd HR.out ⟨u,o,⟨a1,a2,a3,a4,a5⟩⟩) (by have:=putO_le l ⟨u,o,⟨a1,a2,a3,a4,a5⟩⟩; omega) o u b1 b2 b3 b4 b5).mono ?_
 rintro e wB ⟨z,rfl,hz,bB⟩
 have ZE:=hD (hz.rd entOK).ents
 have X10B:=hD (heap_laterR X10A.out bB)
 have X12B:=hD (heap_laterR X12A.out bB)
 have HBB:=hD (below2S HBA.out bB)
 clear hz bB
 go_wp2_with fail
 refine hK.out _ _ ?_ (fun hHeld2 => ?_)
 ·exact two7 X10B.out X12B.out
 clear hK Kx hHeld
 have hHeld:=hHeld2
 clear hHeld2
 try simp only [Act.put,List.setIfInBounds_toArray,List.set_cons_zero,List.set_cons_succ]
 refine wpAnyH_take (i:=5) (oi:=⟨some 8,.assign (.tmp 96),22,"rost.go:53",#[⟨4,.data⟩,⟨4,.chain⟩,⟨0,.phase⟩,⟨1,.phase⟩,⟨2,.phase⟩,⟨3,.phase⟩,⟨4,.phase⟩],none⟩) (v:=?_) rfl (by as_aux_lemma => kernel_rfl) (by as_aux_lemma => kernel_rfl) (by as_aux_lemma => kernel_rfl) (fun _ _ _ h => h) (Or.inl ⟨by rfl,?_⟩) (by assumption) ?_
 rotate_left
 ·intro w' hSw
  try dsimp only at hSw
  go_simp
  try with_reducible rfl
 try simp only [Act.put,List.setIfInBounds_toArray,List.set_cons_zero,List.set_cons_succ]
 refine wpAnyH_take (i:=6) (oi:=⟨some 9,.assign (.const (.int .i64 0)),52,"rost.go:53",#[⟨5,.chain⟩,⟨0,.phase⟩,⟨1,.phase⟩,⟨2,.phase⟩,⟨3,.phase⟩,⟨4,.phase⟩,⟨5,.phase⟩],none⟩) (v:=?_) rfl (by as_aux_lemma => kernel_rfl) (by as_aux_lemma => kernel_rfl) (by as_aux_lemma => kernel_rfl) (fun _ _ _ h => h) (Or.inl ⟨by rfl,?_⟩) (by assumption) ?_
 rotate_left
 ·intro w' hSw
  try dsimp only at hSw
  go_simp
  try with_reducible rfl
 try simp only [Act.put,List.setIfInBounds_toArray,List.set_cons_zero,List.set_cons_succ]
 refine wpAnyH_done (by kernel_rfl) ?_ _
 go_wp2_with fail
 go_ret2
 exact⟨_,rfl,ZE.out,HBB.out⟩

theorem rdoH2 {w:World} {v:Value} {l:List Ent} (hv:Ents w v l) (hs:ShortE l) (hl:l.length≤900) (u o:List UInt8) (hu:u.length≤4294967296) (ho:o.length≤4294967296) (k:Int) (hm:roMayC l=true) (h1:idIs u=true) (h2:idIs o=true) (h3:(u == o)=false) {i1 i2 i3 i4 i5 j1 j2 j3 j4 j5 q q' a1 a2 a3 a4 a5 b1 b2 b3 b4 b5:Bool} (hi:roIt l u o=⟨i1,i2,i3,i4,i5⟩) (hj:roIt l o u=⟨j1,j2,j3,j4,j5⟩) (hq:(l.any fun x => entIs x ⟨u,o,It.zero⟩)=q) (hq':(l.any fun x => entIs x ⟨o,u,It.zero⟩)=q') (hk:(Lit.int .i64 k).wf=true) (hact:suAct ⟨i1,i2,i3,i4,i5⟩ ⟨j1,j2,j3,j4,j5⟩ k=(⟨a1,a2,a3,a4,a5⟩,⟨b1,b2,b3,b4,b5⟩,0)) (hf:q=true) (ga:suEmpty ⟨a1,a2,a3,a4,a5⟩=true) (gb:suEmpty ⟨b1,b2,b3,b4,b5⟩=false) :
  Calls Tryz.prog 82 #[v,.int .i64 k,.string ⟨u.toArray⟩,.string ⟨o.toArray⟩] w fun e w' => ∃ v',e=.returned (.tuple #[v',.int .i64 0])∧Ents w' v' (putO entLt entIs (putO entLt entIs l ⟨u,o,⟨a1,a2,a3,a4,a5⟩⟩) ⟨o,u,⟨b1,b2,b3,b4,b5⟩⟩)∧Below w.heap.size w w':=by
 subst hf
 have GA:=hD (sempty_eq a1 a2 a3 a4 a5 ga)
 have GB:=hD (sempty_eq b1 b2 b3 b4 b5 gb)
 clear ga gb
 have HV:=hD hv
 have HM:=hD (romay_any hv hs (hD hm))
 have HR:=hD (roMay_rise hm)
 have I1:=hD (is_eq u hu (hD h1))
 have I2:=hD (is_eq o ho (hD h2))
 have E1:=hD (entry_any u o)
 have E2:=hD (entry_any o u)
 have FI:=hD hi
 have FJ:=hD hj
 have FQ:=hD hq
 have FQ':=hD hq'
 have HA:=hD (sact_any i1 i2 i3 i4 i5 j1 j2 j3 j4 j5 k hk)
 rw [hact] at HA
 obtain⟨a,cap,rfl,hmx⟩:=hv.open'
 clear hv hs hm h1 h2 hi hj hq hq' hk hact
 go_enter Tryz.func82,Tryz.ntmps82
 go_wp2_with fail
 refine HM.out.mono ?_
 rintro e w1 ⟨rfl,b1⟩
 have HB:=hD b1
 clear b1
 go_wp2_with fail
 refine (I1.out _).mono ?_
 rintro e w2 ⟨rfl,b⟩
 replace HB:=hD (below2S HB.out b)
 clear b
 go_wp2_with fail
 refine (I2.out _).mono ?_
 rintro e w3 ⟨rfl,b⟩
 replace HB:=hD (below2S HB.out b)
 clear b
 go_wp2_with fail
 refine (E1.out _).mono ?_
 rintro e w4 ⟨rfl,b⟩
 replace HB:=hD (below2S HB.out b)
 clear b
 go_wp2_with fail
 refine (rfind_eq (HV.out.later HB.out) HR.out u o FI FQ).mono ?_
 rintro e w5 ⟨rfl,b⟩
 have bb:=bl_newZ w5 (.cells #[.string ⟨u.toArray⟩,.string ⟨o.toArray⟩,.bool i1,.bool i2,.bool i3,.bool i4,.bool i5] 126)
 have X10:=hD (heap_newR w5 (.cells #[.string ⟨u.toArray⟩,.string ⟨o.toArray⟩,.bool i1,.bool i2,.bool i3,.bool i4,.bool i5] 126) rfl)
 have HS5:=hD (below2S HB.out b).size
 replace HB:=hD (below2S (below2S HB.out b) bb)
 clear b bb
 go_wp2_with fail
 generalize hW:w5.alloc (.cells #[.string ⟨u.toArray⟩,.string ⟨o.toArray⟩,.bool i1,.bool i2,.bool i3,.bool i4,.bool i5] 126)=w6 at HB X10 ⊢
 generalize hN:w5.heap.size=n5 at X10 HS5 ⊢
 clear hW hN
 refine (E2.out _).mono ?_
 rintro e w7 ⟨rfl,b⟩
 replace X10:=hD (heap_laterR X10.out b)
 replace HB:=hD (below2S HB.out b)
 clear b
 go_wp2_with fail
 refine (rfind_eq (HV.out.later HB.out) HR.out o u FJ FQ').mono ?_
 rintro e w8 ⟨rfl,b⟩
 have bb:=bl_newZ w8 (.cells #[.string ⟨o.toArray⟩,.string ⟨u.toArray⟩,.bool j1,.bool j2,.bool j3,.bool j4,.bool j5] 126)
 have X12:=hD (heap_newR w8 (.cells #[.string ⟨o.toArray⟩,.string ⟨u.toArray⟩,.bool j1,.bool j2,.bool j3,.bool j4,.bool j5] 126) rfl)
 have HS8:=hD (below2S HB.out b).size
 replace X10:=hD (heap_laterR X10.out b)
 have hne:=hD (heap_ltR X10.out)
 replace X10:=hD (heap_laterR X10.out bb)
 replace HB:=hD (below2S (below2S HB.out b) bb)
 clear b bb
 obtain⟨c0,c1,c2,c3,c4,c5,c6⟩:=e7_cells X10.out
 obtain⟨d0,d1,d2,d3,d4,d5,d6⟩:=e7_cells X12.out
 simp only [Nat.zero_add] at c0 c1 c2 c3 c4 c5 c6 d0 d1 d2 d3 d4 d5 d6
 go_wp2_with fail
 generalize hW:w8.alloc (.cells #[.string ⟨o.toArray⟩,.string ⟨u.toArray⟩,.bool j1,.bool j2,.bool j3,.bool j4,.bool j5] 126)=w9 at HB X10 X12 c0 c1 c2 c3 c4 c5 c6 d0 d1 d2 d3 d4 d5 d6 ⊢
 generalize hN:w8.heap.size=n8 at X12 HS8 hne d0 d1 d2 d3 d4 d5 d6 ⊢
 clear hW hN c0 c1 c2 c3 c4 c5 c6 d0 d1 d2 d3 d4 d5 d6
 refine (HA.out _).mono ?_
 rintro e w10 ⟨rfl,b⟩
 replace X10:=hD (heap_laterR X10.out b)
 replace X12:=hD (heap_laterR X12.out b)
 replace HB:=hD (below2S HB.out b)
 clear b
 have hne1:n5 ≠ n8:=by have:=hne.out; omega
 have Y12:=e7_other X12.out hne1 a1 a2 a3 a4 a5
 have Y10:=e7_set X10.out a1 a2 a3 a4 a5
 have Z12:=hD (e7_set Y12 b1 b2 b3 b4 b5)
 have Z10:=hD (e7_other Y10 hne1.symm b1 b2 b3 b4 b5)
 have ZB:=hD (setI_below (setI_below HB.out HS5.out a1 a2 a3 a4 a5) HS8.out b1 b2 b3 b4 b5)
 obtain⟨c0,c1,c2,c3,c4,c5,c6⟩:=e7_cells X10.out
 obtain⟨d0,d1,d2,d3,d4,d5,d6⟩:=e7_cells Y12
 simp only [Nat.zero_add] at c0 c1 c2 c3 c4 c5 c6 d0 d1 d2 d3 d4 d5 d6
 have f2:=e7_frozen X10.out 2
 have f3:=e7_frozen X10.out 3
 have f4:=e7_frozen X10.out 4
 have f5:=e7_frozen X10.out 5
 have f6:=e7_frozen X10.out 6
 have g2:=e7_frozen Y12 2
 have g3:=e7_frozen Y12 3
 have g4:=e7_frozen Y12 4
 have g5:=e7_frozen Y12 5
 have g6:=e7_frozen Y12 6
 unfold setI at d0 d1 d2 d3 d4 d5 d6 g2 g3 g4 g5 g6
 clear Y10 Y12
 unfold actE
 obtain⟨e0,e1,e2,e3,e4,e5,e6⟩:=e7_cells Z10.out
 obtain⟨p0,p1,p2,p3,p4,p5,p6⟩:=e7_cells Z12.out
 simp only [Nat.zero_add] at e0 e1 e2 e3 e4 e5 e6 p0 p1 p2 p3 p4 p5 p6
 unfold setI at e0 e1 e2 e3 e4 e5 e6 p0 p1 p2 p3 p4 p5 p6
 replace X10:=Z10
 replace X12:=Z12
 replace HB:=ZB
 clear Z10 Z12 ZB
 go_wp2_with fail
 clear c0 c1 c2 c3 c4 c5 c6 d0 d1 d2 d3 d4 d5 d6 f2 f3 f4 f5 f6 g2 g3 g4 g5 g6 e0 e1 e2 e3 e4 e5 e6 p0 p1 p2 p3 p4 p5 p6 HA FI FJ FQ FQ' HM I1 I2 E1 E2
 refine (GA.out _).mono ?_
 rintro e w14 ⟨rfl,b⟩
 replace X10:=hD (heap_laterR X10.out b)
 replace X12:=hD (heap_laterR X12.out b)
 replace HB:=hD (below2S HB.out b)
 clear b
 obtain⟨e0,e1,e2,e3,e4,e5,e6⟩:=e7_cells X10.out
 obtain⟨p0,p1,p2,p3,p4,p5,p6⟩:=e7_cells X12.out
 simp only [Nat.zero_add] at e0 e1 e2 e3 e4 e5 e6 p0 p1 p2 p3 p4 p5 p6
 go_wp2_with fail
 clear e0 e1 e2 e3 e4 e5 e6 p0 p1 p2 p3 p4 p5 p6
 refine (GB.out _).mono ?_
 rintro e w15 ⟨rfl,b⟩
 replace X10:=hD (heap_laterR X10.out b)
 replace X12:=hD (heap_laterR X12.out b)
 replace HB:=hD (below2S HB.out b)
 clear b
 go_wp2_with fail
 have hS0:=two7 X10.out X12.out
 refine wp_region_held_drew (S:=(fun W => ((W).cell? ⟨n5,0,none⟩=some (.string ⟨u.toArray⟩)∧(W).cell? ⟨n5,1,none⟩=some (.string ⟨o.toArray⟩)∧(W).cell? ⟨n5,2,none⟩=some (.bool a1)∧(W).cell? ⟨n5,3,none⟩=some (.bool a2)∧(W).cell? ⟨n5,4,none⟩=some (.bool a3)∧(W).cell? ⟨n5,5,none⟩=some (.bool a4)∧(W).cell? ⟨n5,6,none⟩=some (.bool a5)∧(W).cell? ⟨n8,0,none⟩=some (.string ⟨o.toArray⟩)∧(W).cell? ⟨n8,1,none⟩=some (.string ⟨u.toArray⟩)∧(W).cell? ⟨n8,2,none⟩=some (.bool b1)∧(W).cell? ⟨n8,3,none⟩=some (.bool b2)∧(W).cell? ⟨n8,4,none⟩=some (.bool b3)∧(W).cell? ⟨n8,5,none⟩=some (.bool b4)∧(W).cell? ⟨n8,6,none⟩=some (.bool b5)))) (by kernel_rfl) ?_ (fun hHeld => ?_)
 ·exact two7 (heap_laterR X10.out (Below.refl _ _).drew) (heap_laterR X12.out (Below.refl _ _).drew)
 refine wpAnyH_take (i:=0) (oi:=⟨some 92,.move (.tmp 0),22,"rost.go:53",#[],none⟩) (v:=?_) rfl (by as_aux_lemma => kernel_rfl) (by as_aux_lemma => kernel_rfl) (by as_aux_lemma => kernel_rfl) (fun _ _ _ h => h) (Or.inl ⟨by rfl,?_⟩) (by assumption) ?_
 rotate_left
 ·intro w' hSw
  try dsimp only at hSw
  go_simp
  try with_reducible rfl
 try simp only [Act.put,List.setIfInBounds_toArray,List.set_cons_zero,List.set_cons_succ]
 refine wpAnyH_take (i:=1) (oi:=⟨some 93,.load 126 (.tmp 10),126,"rost.go:53",#[],none⟩) (v:=?_) rfl (by as_aux_lemma => kernel_rfl) (by as_aux_lemma => kernel_rfl) (by as_aux_lemma => kernel_rfl) (fun _ _ _ h => h) (Or.inl ⟨by rfl,?_⟩) (by assumption) ?_
 rotate_left
 ·intro w' hSw
  try dsimp only at hSw
  go_simp
  try with_reducible rfl
 try simp only [Act.put,List.setIfInBounds_toArray,List.set_cons_zero,List.set_cons_succ]
 refine wpAnyH_take (i:=3) (oi:=⟨some 95,.load 126 (.tmp 12),126,"rost.go:53",#[],none⟩) (v:=?_) rfl (by as_aux_lemma => kernel_rfl) (by as_aux_lemma => kernel_rfl) (by as_aux_lemma => kernel_rfl) (fun _ _ _ h => h) (Or.inl ⟨by rfl,?_⟩) (by assumption) ?_
 rotate_left
 ·intro w' hSw
  try dsimp only at hSw
  go_simp
  try with_reducible rfl
 try simp only [Act.put,List.setIfInBounds_toArray,List.set_cons_zero,List.set_cons_succ]
 refine wpAnyH_ready (rs:=[2]) (by as_aux_lemma => kernel_rfl) (by simp) ?_
 refine AllReadyH.cons (o:=⟨some 94,.call { callee:=.value (.func 149),args:=#[.tmp 92,.tmp 93],argTypes:=#[22,126] },22,"rost.go:53",#[⟨0,.data⟩,⟨1,.data⟩],none⟩) rfl (fun Kx hK => ?_) AllReadyH.nil
 go_simp
 refine (rwith_any ((HV.out.later HB.out).later (Below.refl _ _).drew) HR.out (by omega) u o a1 a2 a3 a4 a5).mono ?_
 rintro e wA ⟨y,rfl,hy,bA⟩
 have bd:=below2Z (Below.refl _ _).drew bA
 have HY:=hD hy
 have YA:=hD (hy.rd entOK).ents
 have X10A:=hD (heap_laterR X10.out bd)
 have X12A:=hD (heap_laterR X12.out bd)
 have HBA:=hD (below2S HB.out bd)
 clear bd hy bA
 go_wp2_with fail
 refine hK.out _ _ ?_ (fun hHeld2 => ?_)
 ·exact two7 X10A.out X12A.out
 clear hK Kx hHeld
 have hHeld:=hHeld2
 clear hHeld2
 try simp only [Act.put,List.setIfInBounds_toArray,List.set_cons_zero,List.set_cons_succ]
 refine wpAnyH_ready (rs:=[4]) (by as_aux_lemma => kernel_rfl) (by simp) ?_
 refine AllReadyH.cons (o:=⟨some 96,.call { callee:=.value (.func 149),args:=#[.tmp 94,.tmp 95],argTypes:=#[22,126] },22,"rost.go:53",#[⟨2,.data⟩,⟨3,.data⟩,⟨2,.chain⟩],none⟩) rfl (fun Kx hK => ?_) AllReadyH.nil
 go_simp
 refine (rwith_any YA.out (rise_putO entOrd HR.out ⟨u,o,⟨a1,a2,a3,a4,a5⟩⟩) (by have:=putO_le l ⟨u,o,⟨a1,a2,a3,a4,a5⟩⟩; omega) o u b1 b2 b3 b4 b5).mono ?_
 rintro e wB ⟨z,rfl,hz,bB⟩
 have ZE:=hD (hz.rd entOK).ents
 have X10B:=hD (heap_laterR X10A.out bB)
 have X12B:=hD (heap_laterR X12A.out bB)
 have HBB:=hD (below2S HBA.out bB)
 clear hz bB
 go_wp2_with fail
 refine hK.out _ _ ?_ (fun hHeld2 => ?_)
 ·exact two7 X10B.out X12B.out
 clear hK Kx hHeld
 have hHeld:=hHeld2
 clear hHeld2
 try simp only [Act.put,List.setIfInBounds_toArray,List.set_cons_zero,List.set_cons_succ]
 refine wpAnyH_take (i:=5) (oi:=⟨some 8,.assign (.tmp 96),22,"rost.go:53",#[⟨4,.data⟩,⟨4,.chain⟩,⟨0,.phase⟩,⟨1,.phase⟩,⟨2,.phase⟩,⟨3,.phase⟩,⟨4,.phase⟩],none⟩) (v:=?_) rfl (by as_aux_lemma => kernel_rfl) (by as_aux_lemma => kernel_rfl) (by as_aux_lemma => kernel_rfl) (fun _ _ _ h => h) (Or.inl ⟨by rfl,?_⟩) (by assumption) ?_
 rotate_left
 ·intro w' hSw
  try dsimp only at hSw
  go_simp
  try with_reducible rfl
 try simp only [Act.put,List.setIfInBounds_toArray,List.set_cons_zero,List.set_cons_succ]
 refine wpAnyH_take (i:=6) (oi:=⟨some 9,.assign (.const (.int .i64 0)),52,"rost.go:53",#[⟨5,.chain⟩,⟨0,.phase⟩,⟨1,.phase⟩,⟨2,.phase⟩,⟨3,.phase⟩,⟨4,.phase⟩,⟨5,.phase⟩],none⟩) (v:=?_) rfl (by as_aux_lemma => kernel_rfl) (by as_aux_lemma => kernel_rfl) (by as_aux_lemma => kernel_rfl) (fun _ _ _ h => h) (Or.inl ⟨by rfl,?_⟩) (by assumption) ?_
 rotate_left
 ·intro w' hSw
  try dsimp only at hSw
  go_simp
  try with_reducible rfl
 try simp only [Act.put,List.setIfInBounds_toArray,List.set_cons_zero,List.set_cons_succ]
 refine wpAnyH_done (by kernel_rfl) ?_ _
 go_wp2_with fail
 go_ret2
 exact⟨_,rfl,ZE.out,HBB.out⟩

theorem rdoH3 {w:World} {v:Value} {l:List Ent} (hv:Ents w v l) (hs:ShortE l) (hl:l.length≤900) (u o:List UInt8) (hu:u.length≤4294967296) (ho:o.length≤4294967296) (k:Int) (hm:roMayC l=true) (h1:idIs u=true) (h2:idIs o=true) (h3:(u == o)=false) {i1 i2 i3 i4 i5 j1 j2 j3 j4 j5 q q' a1 a2 a3 a4 a5 b1 b2 b3 b4 b5:Bool} (hi:roIt l u o=⟨i1,i2,i3,i4,i5⟩) (hj:roIt l o u=⟨j1,j2,j3,j4,j5⟩) (hq:(l.any fun x => entIs x ⟨u,o,It.zero⟩)=q) (hq':(l.any fun x => entIs x ⟨o,u,It.zero⟩)=q') (hk:(Lit.int .i64 k).wf=true) (hact:suAct ⟨i1,i2,i3,i4,i5⟩ ⟨j1,j2,j3,j4,j5⟩ k=(⟨a1,a2,a3,a4,a5⟩,⟨b1,b2,b3,b4,b5⟩,0)) (hf:q=false) (gu:decide (16≤(roOf l u).length)=false) (go:decide (16≤(roOf l o).length)=false) (ga:suEmpty ⟨a1,a2,a3,a4,a5⟩=false) :
  Calls Tryz.prog 82 #[v,.int .i64 k,.string ⟨u.toArray⟩,.string ⟨o.toArray⟩] w fun e w' => ∃ v',e=.returned (.tuple #[v',.int .i64 0])∧Ents w' v' (putO entLt entIs (putO entLt entIs l ⟨u,o,⟨a1,a2,a3,a4,a5⟩⟩) ⟨o,u,⟨b1,b2,b3,b4,b5⟩⟩)∧Below w.heap.size w w':=by
 subst hf
 have GU:=hD gu
 have GO:=hD go
 clear gu go
 have GA:=hD (sempty_eq a1 a2 a3 a4 a5 ga)
 clear ga
 have HV:=hD hv
 have HM:=hD (romay_any hv hs (hD hm))
 have HR:=hD (roMay_rise hm)
 have I1:=hD (is_eq u hu (hD h1))
 have I2:=hD (is_eq o ho (hD h2))
 have E1:=hD (entry_any u o)
 have E2:=hD (entry_any o u)
 have FI:=hD hi
 have FJ:=hD hj
 have FQ:=hD hq
 have FQ':=hD hq'
 have HA:=hD (sact_any i1 i2 i3 i4 i5 j1 j2 j3 j4 j5 k hk)
 rw [hact] at HA
 obtain⟨a,cap,rfl,hmx⟩:=hv.open'
 clear hv hs hm h1 h2 hi hj hq hq' hk hact
 go_enter Tryz.func82,Tryz.ntmps82
 go_wp2_with fail
 refine HM.out.mono ?_
 rintro e w1 ⟨rfl,b1⟩
 have HB:=hD b1
 clear b1
 go_wp2_with fail
 refine (I1.out _).mono ?_
 rintro e w2 ⟨rfl,b⟩
 replace HB:=hD (below2S HB.out b)
 clear b
 go_wp2_with fail
 refine (I2.out _).mono ?_
 rintro e w3 ⟨rfl,b⟩
 replace HB:=hD (below2S HB.out b)
 clear b
 go_wp2_with fail
 refine (E1.out _).mono ?_
 rintro e w4 ⟨rfl,b⟩
 replace HB:=hD (below2S HB.out b)
 clear b
 go_wp2_with fail
 refine (rfind_eq (HV.out.later HB.out) HR.out u o FI FQ).mono ?_
 rintro e w5 ⟨rfl,b⟩
 have bb:=bl_newZ w5 (.cells #[.string ⟨u.toArray⟩,.string ⟨o.toArray⟩,.bool i1,.bool i2,.bool i3,.bool i4,.bool i5] 126)
 have X10:=hD (heap_newR w5 (.cells #[.string ⟨u.toArray⟩,.string ⟨o.toArray⟩,.bool i1,.bool i2,.bool i3,.bool i4,.bool i5] 126) rfl)
 have HS5:=hD (below2S HB.out b).size
 replace HB:=hD (below2S (below2S HB.out b) bb)
 clear b bb
 go_wp2_with fail
 generalize hW:w5.alloc (.cells #[.string ⟨u.toArray⟩,.string ⟨o.toArray⟩,.bool i1,.bool i2,.bool i3,.bool i4,.bool i5] 126)=w6 at HB X10 ⊢
 generalize hN:w5.heap.size=n5 at X10 HS5 ⊢
 clear hW hN
 refine (E2.out _).mono ?_
 rintro e w7 ⟨rfl,b⟩
 replace X10:=hD (heap_laterR X10.out b)
 replace HB:=hD (below2S HB.out b)
 clear b
 go_wp2_with fail
 refine (rfind_eq (HV.out.later HB.out) HR.out o u FJ FQ').mono ?_
 rintro e w8 ⟨rfl,b⟩
 have bb:=bl_newZ w8 (.cells #[.string ⟨o.toArray⟩,.string ⟨u.toArray⟩,.bool j1,.bool j2,.bool j3,.bool j4,.bool j5] 126)
 have X12:=hD (heap_newR w8 (.cells #[.string ⟨o.toArray⟩,.string ⟨u.toArray⟩,.bool j1,.bool j2,.bool j3,.bool j4,.bool j5] 126) rfl)
 have HS8:=hD (below2S HB.out b).size
 replace X10:=hD (heap_laterR X10.out b)
 have hne:=hD (heap_ltR X10.out)
 replace X10:=hD (heap_laterR X10.out bb)
 replace HB:=hD (below2S (below2S HB.out b) bb)
 clear b bb
 obtain⟨c0,c1,c2,c3,c4,c5,c6⟩:=e7_cells X10.out
 obtain⟨d0,d1,d2,d3,d4,d5,d6⟩:=e7_cells X12.out
 simp only [Nat.zero_add] at c0 c1 c2 c3 c4 c5 c6 d0 d1 d2 d3 d4 d5 d6
 go_wp2_with fail
 generalize hW:w8.alloc (.cells #[.string ⟨o.toArray⟩,.string ⟨u.toArray⟩,.bool j1,.bool j2,.bool j3,.bool j4,.bool j5] 126)=w9 at HB X10 X12 c0 c1 c2 c3 c4 c5 c6 d0 d1 d2 d3 d4 d5 d6 ⊢
 generalize hN:w8.heap.size=n8 at X12 HS8 hne d0 d1 d2 d3 d4 d5 d6 ⊢
 clear hW hN c0 c1 c2 c3 c4 c5 c6 d0 d1 d2 d3 d4 d5 d6
 refine (HA.out _).mono ?_
 rintro e w10 ⟨rfl,b⟩
 replace X10:=hD (heap_laterR X10.out b)
 replace X12:=hD (heap_laterR X12.out b)
 replace HB:=hD (below2S HB.out b)
 clear b
 have hne1:n5 ≠ n8:=by have:=hne.out; omega
 have Y12:=e7_other X12.out hne1 a1 a2 a3 a4 a5
 have Y10:=e7_set X10.out a1 a2 a3 a4 a5
 have Z12:=hD (e7_set Y12 b1 b2 b3 b4 b5)
 have Z10:=hD (e7_other Y10 hne1.symm b1 b2 b3 b4 b5)
 have ZB:=hD (setI_below (setI_below HB.out HS5.out a1 a2 a3 a4 a5) HS8.out b1 b2 b3 b4 b5)
 obtain⟨c0,c1,c2,c3,c4,c5,c6⟩:=e7_cells X10.out
 obtain⟨d0,d1,d2,d3,d4,d5,d6⟩:=e7_cells Y12
 simp only [Nat.zero_add] at c0 c1 c2 c3 c4 c5 c6 d0 d1 d2 d3 d4 d5 d6
 have f2:=e7_frozen X10.out 2
 have f3:=e7_frozen X10.out 3
 have f4:=e7_frozen X10.out 4
 have f5:=e7_frozen X10.out 5
 have f6:=e7_frozen X10.out 6
 have g2:=e7_frozen Y12 2
 have g3:=e7_frozen Y12 3
 have g4:=e7_frozen Y12 4
 have g5:=e7_frozen Y12 5
 have g6:=e7_frozen Y12 6
 unfold setI at d0 d1 d2 d3 d4 d5 d6 g2 g3 g4 g5 g6
 clear Y10 Y12
 unfold actE
 obtain⟨e0,e1,e2,e3,e4,e5,e6⟩:=e7_cells Z10.out
 obtain⟨p0,p1,p2,p3,p4,p5,p6⟩:=e7_cells Z12.out
 simp only [Nat.zero_add] at e0 e1 e2 e3 e4 e5 e6 p0 p1 p2 p3 p4 p5 p6
 unfold setI at e0 e1 e2 e3 e4 e5 e6 p0 p1 p2 p3 p4 p5 p6
 replace X10:=Z10
 replace X12:=Z12
 replace HB:=ZB
 clear Z10 Z12 ZB
 go_wp2_with fail
 clear c0 c1 c2 c3 c4 c5 c6 d0 d1 d2 d3 d4 d5 d6 f2 f3 f4 f5 f6 g2 g3 g4 g5 g6 e0 e1 e2 e3 e4 e5 e6 p0 p1 p2 p3 p4 p5 p6 HA FI FJ FQ FQ' HM I1 I2 E1 E2
 refine (risFull_any (HV.out.later HB.out) (by omega) u GU).mono ?_
 rintro e w12 ⟨rfl,b⟩
 replace X10:=hD (heap_laterR X10.out b)
 replace X12:=hD (heap_laterR X12.out b)
 replace HB:=hD (below2S HB.out b)
 clear b
 go_wp2_with fail
 refine (risFull_any (HV.out.later HB.out) (by omega) o GO).mono ?_
 rintro e w13 ⟨rfl,b⟩
 replace X10:=hD (heap_laterR X10.out b)
 replace X12:=hD (heap_laterR X12.out b)
 replace HB:=hD (below2S HB.out b)
 clear b
 obtain⟨e0,e1,e2,e3,e4,e5,e6⟩:=e7_cells X10.out
 obtain⟨p0,p1,p2,p3,p4,p5,p6⟩:=e7_cells X12.out
 simp only [Nat.zero_add] at e0 e1 e2 e3 e4 e5 e6 p0 p1 p2 p3 p4 p5 p6
 go_wp2_with fail
 clear e0 e1 e2 e3 e4 e5 e6 p0 p1 p2 p3 p4 p5 p6
 refine (GA.out _).mono ?_
 rintro e w14 ⟨rfl,b⟩
 replace X10:=hD (heap_laterR X10.out b)
 replace X12:=hD (heap_laterR X12.out b)
 replace HB:=hD (below2S HB.out b)
 clear b
 obtain⟨e0,e1,e2,e3,e4,e5,e6⟩:=e7_cells X10.out
 obtain⟨p0,p1,p2,p3,p4,p5,p6⟩:=e7_cells X12.out
 simp only [Nat.zero_add] at e0 e1 e2 e3 e4 e5 e6 p0 p1 p2 p3 p4 p5 p6
 go_wp2_with fail
 clear e0 e1 e2 e3 e4 e5 e6 p0 p1 p2 p3 p4 p5 p6
 have hS0:=two7 X10.out X12.out
 refine wp_region_held_drew (S:=(fun W => ((W).cell? ⟨n5,0,none⟩=some (.string ⟨u.toArray⟩)∧(W).cell? ⟨n5,1,none⟩=some (.string ⟨o.toArray⟩)∧(W).cell? ⟨n5,2,none⟩=some (.bool a1)∧(W).cell? ⟨n5,3,none⟩=some (.bool a2)∧(W).cell? ⟨n5,4,none⟩=some (.bool a3)∧(W).cell? ⟨n5,5,none⟩=some (.bool a4)∧(W).cell? ⟨n5,6,none⟩=some (.bool a5)∧(W).cell? ⟨n8,0,none⟩=some (.string ⟨o.toArray⟩)∧(W).cell? ⟨n8,1,none⟩=some (.string ⟨u.toArray⟩)∧(W).cell? ⟨n8,2,none⟩=some (.bool b1)∧(W).cell? ⟨n8,3,none⟩=some (.bool b2)∧(W).cell? ⟨n8,4,none⟩=some (.bool b3)∧(W).cell? ⟨n8,5,none⟩=some (.bool b4)∧(W).cell? ⟨n8,6,none⟩=some (.bool b5)))) (by kernel_rfl) ?_ (fun hHeld => ?_)
 ·exact two7 (heap_laterR X10.out (Below.refl _ _).drew) (heap_laterR X12.out (Below.refl _ _).drew)
 refine wpAnyH_take (i:=0) (oi:=⟨some 92,.move (.tmp 0),22,"rost.go:53",#[],none⟩) (v:=?_) rfl (by as_aux_lemma => kernel_rfl) (by as_aux_lemma => kernel_rfl) (by as_aux_lemma => kernel_rfl) (fun _ _ _ h => h) (Or.inl ⟨by rfl,?_⟩) (by assumption) ?_
 rotate_left
 ·intro w' hSw
  try dsimp only at hSw
  go_simp
  try with_reducible rfl
 try simp only [Act.put,List.setIfInBounds_toArray,List.set_cons_zero,List.set_cons_succ]
 refine wpAnyH_take (i:=1) (oi:=⟨some 93,.load 126 (.tmp 10),126,"rost.go:53",#[],none⟩) (v:=?_) rfl (by as_aux_lemma => kernel_rfl) (by as_aux_lemma => kernel_rfl) (by as_aux_lemma => kernel_rfl) (fun _ _ _ h => h) (Or.inl ⟨by rfl,?_⟩) (by assumption) ?_
 rotate_left
 ·intro w' hSw
  try dsimp only at hSw
  go_simp
  try with_reducible rfl
 try simp only [Act.put,List.setIfInBounds_toArray,List.set_cons_zero,List.set_cons_succ]
 refine wpAnyH_take (i:=3) (oi:=⟨some 95,.load 126 (.tmp 12),126,"rost.go:53",#[],none⟩) (v:=?_) rfl (by as_aux_lemma => kernel_rfl) (by as_aux_lemma => kernel_rfl) (by as_aux_lemma => kernel_rfl) (fun _ _ _ h => h) (Or.inl ⟨by rfl,?_⟩) (by assumption) ?_
 rotate_left
 ·intro w' hSw
  try dsimp only at hSw
  go_simp
  try with_reducible rfl
 try simp only [Act.put,List.setIfInBounds_toArray,List.set_cons_zero,List.set_cons_succ]
 refine wpAnyH_ready (rs:=[2]) (by as_aux_lemma => kernel_rfl) (by simp) ?_
 refine AllReadyH.cons (o:=⟨some 94,.call { callee:=.value (.func 149),args:=#[.tmp 92,.tmp 93],argTypes:=#[22,126] },22,"rost.go:53",#[⟨0,.data⟩,⟨1,.data⟩],none⟩) rfl (fun Kx hK => ?_) AllReadyH.nil
 go_simp
 refine (rwith_any ((HV.out.later HB.out).later (Below.refl _ _).drew) HR.out (by omega) u o a1 a2 a3 a4 a5).mono ?_
 rintro e wA ⟨y,rfl,hy,bA⟩
 have bd:=below2Z (Below.refl _ _).drew bA
 have HY:=hD hy
 have YA:=hD (hy.rd entOK).ents
 have X10A:=hD (heap_laterR X10.out bd)
 have X12A:=hD (heap_laterR X12.out bd)
 have HBA:=hD (below2S HB.out bd)
 clear bd hy bA
 go_wp2_with fail
 refine hK.out _ _ ?_ (fun hHeld2 => ?_)
 ·exact two7 X10A.out X12A.out
 clear hK Kx hHeld
 have hHeld:=hHeld2
 clear hHeld2
 try simp only [Act.put,List.setIfInBounds_toArray,List.set_cons_zero,List.set_cons_succ]
 refine wpAnyH_ready (rs:=[4]) (by as_aux_lemma => kernel_rfl) (by simp) ?_
 refine AllReadyH.cons (o:=⟨some 96,.call { callee:=.value (.func 149),args:=#[.tmp 94,.tmp 95],argTypes:=#[22,126] },22,"rost.go:53",#[⟨2,.data⟩,⟨3,.data⟩,⟨2,.chain⟩],none⟩) rfl (fun Kx hK => ?_) AllReadyH.nil
 go_simp
 refine (rwith_any YA.out (rise_putO entOrd HR.out ⟨u,o,⟨a1,a2,a3,a4,a5⟩⟩) (by have:=putO_le l ⟨u,o,⟨a1,a2,a3,a4,a5⟩⟩; omega) o u b1 b2 b3 b4 b5).mono ?_
 rintro e wB ⟨z,rfl,hz,bB⟩
 have ZE:=hD (hz.rd entOK).ents
 have X10B:=hD (heap_laterR X10A.out bB)
 have X12B:=hD (heap_laterR X12A.out bB)
 have HBB:=hD (below2S HBA.out bB)
 clear hz bB
 go_wp2_with fail
 refine hK.out _ _ ?_ (fun hHeld2 => ?_)
 ·exact two7 X10B.out X12B.out
 clear hK Kx hHeld
 have hHeld:=hHeld2
 clear hHeld2
 try simp only [Act.put,List.setIfInBounds_toArray,List.set_cons_zero,List.set_cons_succ]
 refine wpAnyH_take (i:=5) (oi:=⟨some 8,.assign (.tmp 96),22,"rost.go:53",#[⟨4,.data⟩,⟨4,.chain⟩,⟨0,.phase⟩,⟨1,.phase⟩,⟨2,.phase⟩,⟨3,.phase⟩,⟨4,.phase⟩],none⟩) (v:=?_) rfl (by as_aux_lemma => kernel_rfl) (by as_aux_lemma => kernel_rfl) (by as_aux_lemma => kernel_rfl) (fun _ _ _ h => h) (Or.inl ⟨by rfl,?_⟩) (by assumption) ?_
 rotate_left
 ·intro w' hSw
  try dsimp only at hSw
  go_simp
  try with_reducible rfl
 try simp only [Act.put,List.setIfInBounds_toArray,List.set_cons_zero,List.set_cons_succ]
 refine wpAnyH_take (i:=6) (oi:=⟨some 9,.assign (.const (.int .i64 0)),52,"rost.go:53",#[⟨5,.chain⟩,⟨0,.phase⟩,⟨1,.phase⟩,⟨2,.phase⟩,⟨3,.phase⟩,⟨4,.phase⟩,⟨5,.phase⟩],none⟩) (v:=?_) rfl (by as_aux_lemma => kernel_rfl) (by as_aux_lemma => kernel_rfl) (by as_aux_lemma => kernel_rfl) (fun _ _ _ h => h) (Or.inl ⟨by rfl,?_⟩) (by assumption) ?_
 rotate_left
 ·intro w' hSw
  try dsimp only at hSw
  go_simp
  try with_reducible rfl
 try simp only [Act.put,List.setIfInBounds_toArray,List.set_cons_zero,List.set_cons_succ]
 refine wpAnyH_done (by kernel_rfl) ?_ _
 go_wp2_with fail
 go_ret2
 exact⟨_,rfl,ZE.out,HBB.out⟩

theorem rdoH4 {w:World} {v:Value} {l:List Ent} (hv:Ents w v l) (hs:ShortE l) (hl:l.length≤900) (u o:List UInt8) (hu:u.length≤4294967296) (ho:o.length≤4294967296) (k:Int) (hm:roMayC l=true) (h1:idIs u=true) (h2:idIs o=true) (h3:(u == o)=false) {i1 i2 i3 i4 i5 j1 j2 j3 j4 j5 q q' a1 a2 a3 a4 a5 b1 b2 b3 b4 b5:Bool} (hi:roIt l u o=⟨i1,i2,i3,i4,i5⟩) (hj:roIt l o u=⟨j1,j2,j3,j4,j5⟩) (hq:(l.any fun x => entIs x ⟨u,o,It.zero⟩)=q) (hq':(l.any fun x => entIs x ⟨o,u,It.zero⟩)=q') (hk:(Lit.int .i64 k).wf=true) (hact:suAct ⟨i1,i2,i3,i4,i5⟩ ⟨j1,j2,j3,j4,j5⟩ k=(⟨a1,a2,a3,a4,a5⟩,⟨b1,b2,b3,b4,b5⟩,0)) (hf:q=false) (gu:decide (16≤(roOf l u).length)=false) (go:decide (16≤(roOf l o).length)=false) (ga:suEmpty ⟨a1,a2,a3,a4,a5⟩=true) (gb:suEmpty ⟨b1,b2,b3,b4,b5⟩=false) :
  Calls Tryz.prog 82 #[v,.int .i64 k,.string ⟨u.toArray⟩,.string ⟨o.toArray⟩] w fun e w' => ∃ v',e=.returned (.tuple #[v',.int .i64 0])∧Ents w' v' (putO entLt entIs (putO entLt entIs l ⟨u,o,⟨a1,a2,a3,a4,a5⟩⟩) ⟨o,u,⟨b1,b2,b3,b4,b5⟩⟩)∧Below w.heap.size w w':=by
 subst hf
 have GU:=hD gu
 have GO:=hD go
 clear gu go
 have GA:=hD (sempty_eq a1 a2 a3 a4 a5 ga)
 have GB:=hD (sempty_eq b1 b2 b3 b4 b5 gb)
 clear ga gb
 have HV:=hD hv
 have HM:=hD (romay_any hv hs (hD hm))
 have HR:=hD (roMay_rise hm)
 have I1:=hD (is_eq u hu (hD h1))
 have I2:=hD (is_eq o ho (hD h2))
 have E1:=hD (entry_any u o)
 have E2:=hD (entry_any o u)
 have FI:=hD hi
 have FJ:=hD hj
 have FQ:=hD hq
 have FQ':=hD hq'
 have HA:=hD (sact_any i1 i2 i3 i4 i5 j1 j2 j3 j4 j5 k hk)
 rw [hact] at HA
 obtain⟨a,cap,rfl,hmx⟩:=hv.open'
 clear hv hs hm h1 h2 hi hj hq hq' hk hact
 go_enter Tryz.func82,Tryz.ntmps82
 go_wp2_with fail
 refine HM.out.mono ?_
 rintro e w1 ⟨rfl,b1⟩
 have HB:=hD b1
 clear b1
 go_wp2_with fail
 refine (I1.out _).mono ?_
 rintro e w2 ⟨rfl,b⟩
 replace HB:=hD (below2S HB.out b)
 clear b
 go_wp2_with fail
 refine (I2.out _).mono ?_
 rintro e w3 ⟨rfl,b⟩
 replace HB:=hD (below2S HB.out b)
 clear b
 go_wp2_with fail
 refine (E1.out _).mono ?_
 rintro e w4 ⟨rfl,b⟩
 replace HB:=hD (below2S HB.out b)
 clear b
 go_wp2_with fail
 refine (rfind_eq (HV.out.later HB.out) HR.out u o FI FQ).mono ?_
 rintro e w5 ⟨rfl,b⟩
 have bb:=bl_newZ w5 (.cells #[.string ⟨u.toArray⟩,.string ⟨o.toArray⟩,.bool i1,.bool i2,.bool i3,.bool i4,.bool i5] 126)
 have X10:=hD (heap_newR w5 (.cells #[.string ⟨u.toArray⟩,.string ⟨o.toArray⟩,.bool i1,.bool i2,.bool i3,.bool i4,.bool i5] 126) rfl)
 have HS5:=hD (below2S HB.out b).size
 replace HB:=hD (below2S (below2S HB.out b) bb)
 clear b bb
 go_wp2_with fail
 generalize hW:w5.alloc (.cells #[.string ⟨u.toArray⟩,.string ⟨o.toArray⟩,.bool i1,.bool i2,.bool i3,.bool i4,.bool i5] 126)=w6 at HB X10 ⊢
 generalize hN:w5.heap.size=n5 at X10 HS5 ⊢
 clear hW hN
 refine (E2.out _).mono ?_
 rintro e w7 ⟨rfl,b⟩
 replace X10:=hD (heap_laterR X10.out b)
 replace HB:=hD (below2S HB.out b)
 clear b
 go_wp2_with fail
 refine (rfind_eq (HV.out.later HB.out) HR.out o u FJ FQ').mono ?_
 rintro e w8 ⟨rfl,b⟩
 have bb:=bl_newZ w8 (.cells #[.string ⟨o.toArray⟩,.string ⟨u.toArray⟩,.bool j1,.bool j2,.bool j3,.bool j4,.bool j5] 126)
 have X12:=hD (heap_newR w8 (.cells #[.string ⟨o.toArray⟩,.string ⟨u.toArray⟩,.bool j1,.bool j2,.bool j3,.bool j4,.bool j5] 126) rfl)
 have HS8:=hD (below2S HB.out b).size
 replace X10:=hD (heap_laterR X10.out b)
 have hne:=hD (heap_ltR X10.out)
 replace X10:=hD (heap_laterR X10.out bb)
 replace HB:=hD (below2S (below2S HB.out b) bb)
 clear b bb
 obtain⟨c0,c1,c2,c3,c4,c5,c6⟩:=e7_cells X10.out
 obtain⟨d0,d1,d2,d3,d4,d5,d6⟩:=e7_cells X12.out
 simp only [Nat.zero_add] at c0 c1 c2 c3 c4 c5 c6 d0 d1 d2 d3 d4 d5 d6
 go_wp2_with fail
 generalize hW:w8.alloc (.cells #[.string ⟨o.toArray⟩,.string ⟨u.toArray⟩,.bool j1,.bool j2,.bool j3,.bool j4,.bool j5] 126)=w9 at HB X10 X12 c0 c1 c2 c3 c4 c5 c6 d0 d1 d2 d3 d4 d5 d6 ⊢
 generalize hN:w8.heap.size=n8 at X12 HS8 hne d0 d1 d2 d3 d4 d5 d6 ⊢
 clear hW hN c0 c1 c2 c3 c4 c5 c6 d0 d1 d2 d3 d4 d5 d6
 refine (HA.out _).mono ?_
 rintro e w10 ⟨rfl,b⟩
 replace X10:=hD (heap_laterR X10.out b)
 replace X12:=hD (heap_laterR X12.out b)
 replace HB:=hD (below2S HB.out b)
 clear b
 have hne1:n5 ≠ n8:=by have:=hne.out; omega
 have Y12:=e7_other X12.out hne1 a1 a2 a3 a4 a5
 have Y10:=e7_set X10.out a1 a2 a3 a4 a5
 have Z12:=hD (e7_set Y12 b1 b2 b3 b4 b5)
 have Z10:=hD (e7_other Y10 hne1.symm b1 b2 b3 b4 b5)
 have ZB:=hD (setI_below (setI_below HB.out HS5.out a1 a2 a3 a4 a5) HS8.out b1 b2 b3 b4 b5)
 obtain⟨c0,c1,c2,c3,c4,c5,c6⟩:=e7_cells X10.out
 obtain⟨d0,d1,d2,d3,d4,d5,d6⟩:=e7_cells Y12
 simp only [Nat.zero_add] at c0 c1 c2 c3 c4 c5 c6 d0 d1 d2 d3 d4 d5 d6
 have f2:=e7_frozen X10.out 2
 have f3:=e7_frozen X10.out 3
 have f4:=e7_frozen X10.out 4
 have f5:=e7_frozen X10.out 5
 have f6:=e7_frozen X10.out 6
 have g2:=e7_frozen Y12 2
 have g3:=e7_frozen Y12 3
 have g4:=e7_frozen Y12 4
 have g5:=e7_frozen Y12 5
 have g6:=e7_frozen Y12 6
 unfold setI at d0 d1 d2 d3 d4 d5 d6 g2 g3 g4 g5 g6
 clear Y10 Y12
 unfold actE
 obtain⟨e0,e1,e2,e3,e4,e5,e6⟩:=e7_cells Z10.out
 obtain⟨p0,p1,p2,p3,p4,p5,p6⟩:=e7_cells Z12.out
 simp only [Nat.zero_add] at e0 e1 e2 e3 e4 e5 e6 p0 p1 p2 p3 p4 p5 p6
 unfold setI at e0 e1 e2 e3 e4 e5 e6 p0 p1 p2 p3 p4 p5 p6
 replace X10:=Z10
 replace X12:=Z12
 replace HB:=ZB
 clear Z10 Z12 ZB
 go_wp2_with fail
 clear c0 c1 c2 c3 c4 c5 c6 d0 d1 d2 d3 d4 d5 d6 f2 f3 f4 f5 f6 g2 g3 g4 g5 g6 e0 e1 e2 e3 e4 e5 e6 p0 p1 p2 p3 p4 p5 p6 HA FI FJ FQ FQ' HM I1 I2 E1 E2
 refine (risFull_any (HV.out.later HB.out) (by omega) u GU).mono ?_
 rintro e w12 ⟨rfl,b⟩
 replace X10:=hD (heap_laterR X10.out b)
 replace X12:=hD (heap_laterR X12.out b)
 replace HB:=hD (below2S HB.out b)
 clear b
 go_wp2_with fail
 refine (risFull_any (HV.out.later HB.out) (by omega) o GO).mono ?_
 rintro e w13 ⟨rfl,b⟩
 replace X10:=hD (heap_laterR X10.out b)
 replace X12:=hD (heap_laterR X12.out b)
 replace HB:=hD (below2S HB.out b)
 clear b
 obtain⟨e0,e1,e2,e3,e4,e5,e6⟩:=e7_cells X10.out
 obtain⟨p0,p1,p2,p3,p4,p5,p6⟩:=e7_cells X12.out
 simp only [Nat.zero_add] at e0 e1 e2 e3 e4 e5 e6 p0 p1 p2 p3 p4 p5 p6
 go_wp2_with fail
 clear e0 e1 e2 e3 e4 e5 e6 p0 p1 p2 p3 p4 p5 p6
 refine (GA.out _).mono ?_
 rintro e w14 ⟨rfl,b⟩
 replace X10:=hD (heap_laterR X10.out b)
 replace X12:=hD (heap_laterR X12.out b)
 replace HB:=hD (below2S HB.out b)
 clear b
 obtain⟨e0,e1,e2,e3,e4,e5,e6⟩:=e7_cells X10.out
 obtain⟨p0,p1,p2,p3,p4,p5,p6⟩:=e7_cells X12.out
 simp only [Nat.zero_add] at e0 e1 e2 e3 e4 e5 e6 p0 p1 p2 p3 p4 p5 p6
 go_wp2_with fail
 clear e0 e1 e2 e3 e4 e5 e6 p0 p1 p2 p3 p4 p5 p6
 refine (GB.out _).mono ?_
 rintro e w15 ⟨rfl,b⟩
 replace X10:=hD (heap_laterR X10.out b)
 replace X12:=hD (heap_laterR X12.out b)
 replace HB:=hD (below2S HB.out b)
 clear b
 go_wp2_with fail
 have hS0:=two7 X10.out X12.out
 refine wp_region_held_drew (S:=(fun W => ((W).cell? ⟨n5,0,none⟩=some (.string ⟨u.toArray⟩)∧(W).cell? ⟨n5,1,none⟩=some (.string ⟨o.toArray⟩)∧(W).cell? ⟨n5,2,none⟩=some (.bool a1)∧(W).cell? ⟨n5,3,none⟩=some (.bool a2)∧(W).cell? ⟨n5,4,none⟩=some (.bool a3)∧(W).cell? ⟨n5,5,none⟩=some (.bool a4)∧(W).cell? ⟨n5,6,none⟩=some (.bool a5)∧(W).cell? ⟨n8,0,none⟩=some (.string ⟨o.toArray⟩)∧(W).cell? ⟨n8,1,none⟩=some (.string ⟨u.toArray⟩)∧(W).cell? ⟨n8,2,none⟩=some (.bool b1)∧(W).cell? ⟨n8,3,none⟩=some (.bool b2)∧(W).cell? ⟨n8,4,none⟩=some (.bool b3)∧(W).cell? ⟨n8,5,none⟩=some (.bool b4)∧(W).cell? ⟨n8,6,none⟩=some (.bool b5)))) (by kernel_rfl) ?_ (fun hHeld => ?_)
 ·exact two7 (heap_laterR X10.out (Below.refl _ _).drew) (heap_laterR X12.out (Below.refl _ _).drew)
 refine wpAnyH_take (i:=0) (oi:=⟨some 92,.move (.tmp 0),22,"rost.go:53",#[],none⟩) (v:=?_) rfl (by as_aux_lemma => kernel_rfl) (by as_aux_lemma => kernel_rfl) (by as_aux_lemma => kernel_rfl) (fun _ _ _ h => h) (Or.inl ⟨by rfl,?_⟩) (by assumption) ?_
 rotate_left
 ·intro w' hSw
  try dsimp only at hSw
  go_simp
  try with_reducible rfl
 try simp only [Act.put,List.setIfInBounds_toArray,List.set_cons_zero,List.set_cons_succ]
 refine wpAnyH_take (i:=1) (oi:=⟨some 93,.load 126 (.tmp 10),126,"rost.go:53",#[],none⟩) (v:=?_) rfl (by as_aux_lemma => kernel_rfl) (by as_aux_lemma => kernel_rfl) (by as_aux_lemma => kernel_rfl) (fun _ _ _ h => h) (Or.inl ⟨by rfl,?_⟩) (by assumption) ?_
 rotate_left
 ·intro w' hSw
  try dsimp only at hSw
  go_simp
  try with_reducible rfl
 try simp only [Act.put,List.setIfInBounds_toArray,List.set_cons_zero,List.set_cons_succ]
 refine wpAnyH_take (i:=3) (oi:=⟨some 95,.load 126 (.tmp 12),126,"rost.go:53",#[],none⟩) (v:=?_) rfl (by as_aux_lemma => kernel_rfl) (by as_aux_lemma => kernel_rfl) (by as_aux_lemma => kernel_rfl) (fun _ _ _ h => h) (Or.inl ⟨by rfl,?_⟩) (by assumption) ?_
 rotate_left
 ·intro w' hSw
  try dsimp only at hSw
  go_simp
  try with_reducible rfl
 try simp only [Act.put,List.setIfInBounds_toArray,List.set_cons_zero,List.set_cons_succ]
 refine wpAnyH_ready (rs:=[2]) (by as_aux_lemma => kernel_rfl) (by simp) ?_
 refine AllReadyH.cons (o:=⟨some 94,.call { callee:=.value (.func 149),args:=#[.tmp 92,.tmp 93],argTypes:=#[22,126] },22,"rost.go:53",#[⟨0,.data⟩,⟨1,.data⟩],none⟩) rfl (fun Kx hK => ?_) AllReadyH.nil
 go_simp
 refine (rwith_any ((HV.out.later HB.out).later (Below.refl _ _).drew) HR.out (by omega) u o a1 a2 a3 a4 a5).mono ?_
 rintro e wA ⟨y,rfl,hy,bA⟩
 have bd:=below2Z (Below.refl _ _).drew bA
 have HY:=hD hy
 have YA:=hD (hy.rd entOK).ents
 have X10A:=hD (heap_laterR X10.out bd)
 have X12A:=hD (heap_laterR X12.out bd)
 have HBA:=hD (below2S HB.out bd)
 clear bd hy bA
 go_wp2_with fail
 refine hK.out _ _ ?_ (fun hHeld2 => ?_)
 ·exact two7 X10A.out X12A.out
 clear hK Kx hHeld
 have hHeld:=hHeld2
 clear hHeld2
 try simp only [Act.put,List.setIfInBounds_toArray,List.set_cons_zero,List.set_cons_succ]
 refine wpAnyH_ready (rs:=[4]) (by as_aux_lemma => kernel_rfl) (by simp) ?_
 refine AllReadyH.cons (o:=⟨some 96,.call { callee:=.value (.func 149),args:=#[.tmp 94,.tmp 95],argTypes:=#[22,126] },22,"rost.go:53",#[⟨2,.data⟩,⟨3,.data⟩,⟨2,.chain⟩],none⟩) rfl (fun Kx hK => ?_) AllReadyH.nil
 go_simp
 refine (rwith_any YA.out (rise_putO entOrd HR.out ⟨u,o,⟨a1,a2,a3,a4,a5⟩⟩) (by have:=putO_le l ⟨u,o,⟨a1,a2,a3,a4,a5⟩⟩; omega) o u b1 b2 b3 b4 b5).mono ?_
 rintro e wB ⟨z,rfl,hz,bB⟩
 have ZE:=hD (hz.rd entOK).ents
 have X10B:=hD (heap_laterR X10A.out bB)
 have X12B:=hD (heap_laterR X12A.out bB)
 have HBB:=hD (below2S HBA.out bB)
 clear hz bB
 go_wp2_with fail
 refine hK.out _ _ ?_ (fun hHeld2 => ?_)
 ·exact two7 X10B.out X12B.out
 clear hK Kx hHeld
 have hHeld:=hHeld2
 clear hHeld2
 try simp only [Act.put,List.setIfInBounds_toArray,List.set_cons_zero,List.set_cons_succ]
 refine wpAnyH_take (i:=5) (oi:=⟨some 8,.assign (.tmp 96),22,"rost.go:53",#[⟨4,.data⟩,⟨4,.chain⟩,⟨0,.phase⟩,⟨1,.phase⟩,⟨2,.phase⟩,⟨3,.phase⟩,⟨4,.phase⟩],none⟩) (v:=?_) rfl (by as_aux_lemma => kernel_rfl) (by as_aux_lemma => kernel_rfl) (by as_aux_lemma => kernel_rfl) (fun _ _ _ h => h) (Or.inl ⟨by rfl,?_⟩) (by assumption) ?_
 rotate_left
 ·intro w' hSw
  try dsimp only at hSw
  go_simp
  try with_reducible rfl
 try simp only [Act.put,List.setIfInBounds_toArray,List.set_cons_zero,List.set_cons_succ]
 refine wpAnyH_take (i:=6) (oi:=⟨some 9,.assign (.const (.int .i64 0)),52,"rost.go:53",#[⟨5,.chain⟩,⟨0,.phase⟩,⟨1,.phase⟩,⟨2,.phase⟩,⟨3,.phase⟩,⟨4,.phase⟩,⟨5,.phase⟩],none⟩) (v:=?_) rfl (by as_aux_lemma => kernel_rfl) (by as_aux_lemma => kernel_rfl) (by as_aux_lemma => kernel_rfl) (fun _ _ _ h => h) (Or.inl ⟨by rfl,?_⟩) (by assumption) ?_
 rotate_left
 ·intro w' hSw
  try dsimp only at hSw
  go_simp
  try with_reducible rfl
 try simp only [Act.put,List.setIfInBounds_toArray,List.set_cons_zero,List.set_cons_succ]
 refine wpAnyH_done (by kernel_rfl) ?_ _
 go_wp2_with fail
 go_ret2
 exact⟨_,rfl,ZE.out,HBB.out⟩

theorem rdo_any {w:World} {v:Value} {l:List Ent} (hv:Ents w v l) (hs:ShortE l) (hl:l.length≤900) (u o:List UInt8) (hu:u.length≤4294967296) (ho:o.length≤4294967296) (k:Int) (hk:(Lit.int .i64 k).wf=true) {R:List Ent} {n:Nat} (h:roDo l k u o=(R,n)) :
  Calls Tryz.prog 82 #[v,.int .i64 k,.string ⟨u.toArray⟩,.string ⟨o.toArray⟩] w fun e w' => ∃ v',e=.returned (.tuple #[v',.int .i64 (n:Int)])∧Ents w' v' R∧Below w.heap.size w w':=by
 unfold roDo at h
 cases hm:roMayC l with
 | false =>
  rw [hm] at h
  simp only [Bool.false_and,Bool.false_eq_true,if_false,Prod.mk.injEq] at h
  obtain⟨rfl,rfl⟩:=h
  exact rdoA hv hs (by omega) u o hu ho k hm
 | true =>
  cases h1:idIs u with
  | false =>
   rw [hm,h1] at h
   simp only [Bool.false_and,Bool.true_and,Bool.false_eq_true,if_false,Prod.mk.injEq] at h
   obtain⟨rfl,rfl⟩:=h
   exact rdoB hv hs (by omega) u o hu ho k hm h1
  | true =>
   cases h2:idIs o with
   | false =>
    rw [hm,h1,h2] at h
    simp only [Bool.false_and,Bool.true_and,Bool.false_eq_true,if_false,Prod.mk.injEq] at h
    obtain⟨rfl,rfl⟩:=h
    exact rdoC hv hs (by omega) u o hu ho k hm h1 h2
   | true =>
    by_cases h3:u=o
    ·rw [hm,h1,h2] at h
     simp only [h3,decide_true,Bool.not_true,Bool.false_and,Bool.true_and,Bool.false_eq_true,if_false,Prod.mk.injEq] at h
     obtain⟨rfl,rfl⟩:=h
     exact rdoD hv hs (by omega) u o hu ho k hm h1 h2 (by simpa using h3)
    ·have h3':(u == o)=false:=by rw [beq_eq_false_iff_ne]; exact h3
     obtain⟨⟨i1,i2,i3,i4,i5⟩,hi⟩ : ∃ r,roIt l u o=r:=⟨_,rfl⟩
     obtain⟨⟨j1,j2,j3,j4,j5⟩,hj⟩ : ∃ r,roIt l o u=r:=⟨_,rfl⟩
     obtain⟨q,hq⟩ : ∃ q,(l.any fun x => entIs x ⟨u,o,It.zero⟩)=q:=⟨_,rfl⟩
     obtain⟨⟨⟨a1,a2,a3,a4,a5⟩,⟨b1,b2,b3,b4,b5⟩,er⟩,hact⟩ : ∃ r,suAct ⟨i1,i2,i3,i4,i5⟩ ⟨j1,j2,j3,j4,j5⟩ k=r:=⟨_,rfl⟩
     by_cases hr:1≤k∧k≤6
     ·rw [hm,h1,h2,hi,hj,hact,hq] at h
      simp only [h3,hr.1,hr.2,decide_false,decide_true,Bool.not_false,Bool.and_self,if_true] at h
      by_cases he:er=0
      ·subst he
       rw [if_neg (by simp)] at h
       have hmr:=roMay_rise hm
       cases q with
       | false =>
        cases gu:decide (16≤(roOf l u).length) with
        | true =>
         rw [gu] at h
         simp only [Bool.not_false,Bool.true_and,Bool.true_or,if_true,Prod.mk.injEq] at h
         obtain⟨rfl,rfl⟩:=h
         exact rdoF1 hv hs hl u o hu ho k hm h1 h2 h3' hi hj hq rfl hk hact rfl gu
        | false =>
         cases go:decide (16≤(roOf l o).length) with
         | true =>
          rw [gu,go] at h
          simp only [Bool.not_false,Bool.true_and,Bool.or_true,if_true,Prod.mk.injEq] at h
          obtain⟨rfl,rfl⟩:=h
          exact rdoF2 hv hs hl u o hu ho k hm h1 h2 h3' hi hj hq rfl hk hact rfl gu go
         | false =>
          rw [gu,go] at h
          simp only [Bool.or_self,Bool.and_false,Bool.false_eq_true,if_false,Prod.mk.injEq] at h
          obtain⟨rfl,rfl⟩:=h
          cases ga:suEmpty ⟨a1,a2,a3,a4,a5⟩ with
          | true =>
           cases gb:suEmpty ⟨b1,b2,b3,b4,b5⟩ with
           | true =>
            simp only [Bool.and_self,Bool.not_true,roSet_drop]
            exact rdoG2 hv hs hl u o hu ho k hm h1 h2 h3' hi hj hq rfl hk hact rfl gu go ga gb
           | false =>
            simp only [Bool.and_false,Bool.not_false]
            rw [roSet_keep (roSet_rise hmr _ _),roSet_keep hmr]
            exact rdoH4 hv hs hl u o hu ho k hm h1 h2 h3' hi hj hq rfl hk hact rfl gu go ga gb
          | false =>
           simp only [Bool.false_and,Bool.not_false]
           rw [roSet_keep (roSet_rise hmr _ _),roSet_keep hmr]
           exact rdoH3 hv hs hl u o hu ho k hm h1 h2 h3' hi hj hq rfl hk hact rfl gu go ga
       | true =>
        simp only [Bool.not_true,Bool.false_and,Bool.false_eq_true,if_false,Prod.mk.injEq] at h
        obtain⟨rfl,rfl⟩:=h
        cases ga:suEmpty ⟨a1,a2,a3,a4,a5⟩ with
        | true =>
         cases gb:suEmpty ⟨b1,b2,b3,b4,b5⟩ with
         | true =>
          simp only [Bool.and_self,Bool.not_true,roSet_drop]
          exact rdoG1 hv hs hl u o hu ho k hm h1 h2 h3' hi hj hq rfl hk hact rfl ga gb
         | false =>
          simp only [Bool.and_false,Bool.not_false]
          rw [roSet_keep (roSet_rise hmr _ _),roSet_keep hmr]
          exact rdoH2 hv hs hl u o hu ho k hm h1 h2 h3' hi hj hq rfl hk hact rfl ga gb
        | false =>
         simp only [Bool.false_and,Bool.not_false]
         rw [roSet_keep (roSet_rise hmr _ _),roSet_keep hmr]
         exact rdoH1 hv hs hl u o hu ho k hm h1 h2 h3' hi hj hq rfl hk hact rfl ga
      ·rw [if_pos he] at h
       simp only [Prod.mk.injEq] at h
       obtain⟨rfl,rfl⟩:=h
       exact rdoE hv hs (by omega) u o hu ho k hm h1 h2 h3' hi hj hq rfl hk hact he
     ·have hcond:(decide (1≤k) && decide (k≤6))=false:=by
       rw [Bool.eq_false_iff]
       intro h'
       simp only [Bool.and_eq_true,decide_eq_true_eq] at h'
       exact hr h'
      rw [hm,h1,h2,hcond] at h
      simp only [Bool.and_false,Bool.false_eq_true,if_false,Prod.mk.injEq] at h
      obtain⟨rfl,rfl⟩:=h
      have hlow:=suAct_low (a:=⟨i1,i2,i3,i4,i5⟩) (b:=⟨j1,j2,j3,j4,j5⟩) (k:=k) (by omega)
      exact rdoE hv hs (by omega) u o hu ho k hm h1 h2 h3' hi hj hq rfl hk hlow (by decide)

end Go.Proofs.YtphfinlfabklmaaGreat
