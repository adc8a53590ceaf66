/-
 TEXTS OF THE PROOF, one behind the other: ViewLive.
-/
import Derived.Test.YtphfinlfabklmaaGreatB32
import Derived.Test.YtphfinlfabklmaaGreatB16
import Derived.Test.YtphfinlfabklmaaGreatB36
import Derived.Test.YtphfinlfabklmaaGreatB38
import Derived.Test.YtphfinlfabklmaaGreatB37

set_option maxHeartbeats 12800000
set_option maxRecDepth 100000

namespace Go.Proofs.YtphfinlfabklmaaGreat
open Go.RowKit

def lwV:Val:=⟨4,2,0,[]⟩
def lwE:List Ev:=[⟨7,[97,110,110],[],1,⟨4,2,0,[]⟩⟩,⟨1,[98,111,98],[97,110,110],0,⟨0,0,0,[]⟩⟩]
def lwS1:Sta:=⟨lvM1,[⟨[97,110,110],1,⟨4,2,0,[]⟩⟩]⟩
def lwS2:Sta:=⟨lvM2,[⟨[97,110,110],1,⟨4,2,0,[]⟩⟩]⟩
def lwS3:Sta:=⟨[⟨[97,110,110],[98,111,98],⟨false,true,false,false,false⟩⟩,⟨[98,111,98],[97,110,110],⟨true,false,false,false,true⟩⟩],[⟨[97,110,110],1,⟨4,2,0,[]⟩⟩]⟩
theorem lwAll:(stAll ⟨[],[]⟩ lwE).1=lwS1:=by kernel_rfl
theorem lwNums:numsOf ⟨[],[]⟩ lwE=[0,0]:=by kernel_rfl
theorem lwA1:stApply lwS1 ⟨2,[97,110,110],[98,111,98],0,⟨0,0,0,[]⟩⟩=(lwS2,0):=by kernel_rfl
theorem lwA2:stApply lwS2 ⟨5,[98,111,98],[97,110,110],0,⟨0,0,0,[]⟩⟩=(lwS3,0):=by kernel_rfl
theorem lwM1:stMay lwS1=true:=by kernel_rfl
theorem lwM2:stMay lwS2=true:=by kernel_rfl
theorem lwM3:stMay lwS3=true:=by kernel_rfl
theorem lwVa:vwValue lwS2 [98,111,98] [97,110,110]=(⟨4,2,0,[]⟩,true):=by kernel_rfl
theorem lwVb:vwValue lwS2 [97,110,110] [98,111,98]=(⟨0,0,0,[]⟩,false):=by kernel_rfl
theorem lwO1:vwOf lwS1 [98,111,98]=[]:=by kernel_rfl
theorem lwO2:vwOf lwS2 [98,111,98]=[⟨[97,110,110],⟨4,2,0,[]⟩⟩]:=by kernel_rfl
theorem lwW2:vwWat lwS2 [97,110,110]=[[98,111,98]]:=by kernel_rfl
theorem lwW3:vwWat lwS3 [97,110,110]=[]:=by kernel_rfl
theorem lwB1:vwBetween lwS1 lwS2 [98,111,98]=[⟨[97,110,110],true,⟨4,2,0,[]⟩⟩]:=by kernel_rfl
theorem lwB2:vwBetween lwS2 lwS3 [98,111,98]=[⟨[97,110,110],false,⟨0,0,0,[]⟩⟩]:=by kernel_rfl
theorem lwOK0:StOK (⟨[],[]⟩ : Sta):=⟨fun e h => by simp at h,fun e h => by simp at h⟩
theorem lwSh:∀ e ∈ lwE,evShort e:=by
 intro e h
 simp only [lwE,List.mem_cons,List.not_mem_nil,or_false] at h
 rcases h with rfl | rfl <;> (refine ⟨?_,?_,?_⟩ <;> decide)
theorem ents_shape {w:World} {v:Value} {l:List Ent} {n:Nat} (h:Ents w v l) (hn:l.length=n):∃ a c,v=.slice a n c:=by
 obtain⟨a,c,e,_⟩:=h.open'
 exact⟨a,c,by rw [← hn]; exact e⟩
theorem rdS_shape {α:Type} {vals:α→List Value} {sz:Nat} {zero:α} {w:World} {v:Value} {l:List α} {n:Nat} (h:RdS vals sz zero w v l) (hn:l.length=n):∃ a c,v=.slice a n c:=by
 obtain⟨a,c,e,_⟩:=RdS.open' h
 exact⟨a,c,by rw [← hn]; exact e⟩
theorem chgs_shapeV {w:World} {v:Value} {l:List Chg} {n:Nat} (h:Chgs w v l) (hn:l.length=n):∃ a c,v=.slice a n c:=by
 obtain⟨a,c,e,_⟩:=h
 exact⟨a,c,by rw [← hn]; exact e⟩
theorem tab_shapeV {w:World} {v:Value} {l:List Row} {n:Nat} (h:Tab w v l) (hn:l.length=n):∃ a c,v=.slice a n c:=by
 obtain⟨a,c,e,_⟩:=h.open'
 exact⟨a,c,by rw [← hn]; exact e⟩
theorem val_eql_self (a b c:Int) (s:List UInt8) (w:World) :
  (binOp .eql 30 (.agg #[.int .i64 a,.int .i64 b,.int .i64 c,.string ⟨s.toArray⟩]) (.agg #[.int .i64 a,.int .i64 b,.int .i64 c,.string ⟨s.toArray⟩])).run Tryz.prog w=.ok (.bool true) w:=by
 have:=val_eql5 a b c a b c s s w
 rwa [vSame_self] at this
theorem csame_yes {w:World} {v u:Value} {t:List Chg} (hv:Chgs w v t) (hu:Chgs w u t) :
  Calls Tryz.prog 23 #[v,u] w fun e w' => e=.returned (.bool true)∧Below w.heap.size w w':=by
 have h:=csame_any hv hu
 rwa [csSame_self] at h

theorem live15 (w:World):Calls Tryz.prog 14 #[] w fun e w' => e=.returned (.bool true)∧Below w.heap.size w w':=by
 have b0:=bl_newZ w (.cells #[.int .i64 4,.int .i64 2,.int .i64 0,.string ⟨#[]⟩] 30)
 have b1:=bl_newZ (w.alloc (.cells #[.int .i64 4,.int .i64 2,.int .i64 0,.string ⟨#[]⟩] 30)) (.cells #[.int .i64 7,.string ⟨#[97,110,110]⟩,.string ⟨#[]⟩,.int .i64 1,.int .i64 4,.int .i64 2,.int .i64 0,.string ⟨#[]⟩,.int .i64 1,.string ⟨#[98,111,98]⟩,.string ⟨#[97,110,110]⟩,.int .i64 0,.int .i64 0,.int .i64 0,.int .i64 0,.string ⟨#[]⟩] 50)
 have HB:=hD (below2Z b0 b1)
 have T1:=newQ w (.cells #[.int .i64 4,.int .i64 2,.int .i64 0,.string ⟨#[]⟩] 30)
 replace T1:=upQ T1 b1
 replace T1:=hD T1
 have EB:=newQ (w.alloc (.cells #[.int .i64 4,.int .i64 2,.int .i64 0,.string ⟨#[]⟩] 30)) (.cells #[.int .i64 7,.string ⟨#[97,110,110]⟩,.string ⟨#[]⟩,.int .i64 1,.int .i64 4,.int .i64 2,.int .i64 0,.string ⟨#[]⟩,.int .i64 1,.string ⟨#[98,111,98]⟩,.string ⟨#[97,110,110]⟩,.int .i64 0,.int .i64 0,.int .i64 0,.int .i64 0,.string ⟨#[]⟩] 50)
 rw [World.size_alloc] at EB
 replace EB:=hD EB
 clear b0 b1
 have HE:=hD (rdS_made evOK (w:=w.alloc (.cells #[.int .i64 4,.int .i64 2,.int .i64 0,.string ⟨#[]⟩] 30)) (cs:=#[.int .i64 7,.string ⟨#[97,110,110]⟩,.string ⟨#[]⟩,.int .i64 1,.int .i64 4,.int .i64 2,.int .i64 0,.string ⟨#[]⟩,.int .i64 1,.string ⟨#[98,111,98]⟩,.string ⟨#[97,110,110]⟩,.int .i64 0,.int .i64 0,.int .i64 0,.int .i64 0,.string ⟨#[]⟩]) (l:=lwE) rfl (by decide) rfl)
 rw [World.size_alloc] at HE
 have hlE:lwE.length=2:=rfl
 rw [hlE] at HE
 clear hlE
 clear EB
 obtain⟨⟨T1c0,T1c1,T1c2,T1c3⟩,⟨T1f0,T1f1,T1f2,T1f3⟩⟩:=blk4 T1.out
 go_enter Tryz.func14,Tryz.ntmps14
 go_wp2_with fail
 clear T1c0 T1c1 T1c2 T1c3 T1f0 T1f1 T1f2 T1f3
 refine (rstall_any (w:=_) (x:=.slice none 0 0) (y:=.slice none 0 0) (t:=⟨[],[]⟩) ⟨ents_nil _,rdS_nil _⟩ lwOK0 (by decide) HE.out (by decide) lwSh).mono ?_
 rintro e w3 ⟨x1,y1,u1,rfl,h1,hn1,b3⟩
 replace T1:=hD (upQ T1.out b3)
 replace HB:=hD (below2Z HB.out b3)
 rw [lwAll] at h1
 rw [lwNums] at hn1
 obtain⟨au,cu,rfl⟩:=rdS_shape hn1 (n:=2) rfl
 obtain⟨ax1,cx1,rfl⟩:=ents_shape h1.1 (n:=2) rfl
 obtain⟨ay1,cy1,rfl⟩:=rdS_shape h1.2 (n:=1) rfl
 have H1:=hD h1
 clear h1 hn1 HE
 clear b3
 have b4:=bl_newZ w3 (.cells #[.slice ax1 2 cx1,.slice ay1 1 cy1] 25)
 have S1:=newQ w3 (.cells #[.slice ax1 2 cx1,.slice ay1 1 cy1] 25)
 have hS1:w.heap.size≤w3.heap.size:=HB.out.size
 replace T1:=hD (upQ T1.out b4)
 replace H1:=hD (H1.out.later b4)
 replace HB:=hD (below2Z HB.out b4)
 clear b4
 replace S1:=hD S1
 obtain⟨⟨T1c0,T1c1,T1c2,T1c3⟩,⟨T1f0,T1f1,T1f2,T1f3⟩⟩:=blk4 T1.out
 obtain⟨⟨S1c0,S1c1⟩,⟨S1f0,S1f1⟩⟩:=blk2 S1.out
 go_wp2_with fail
 clear T1c0 T1c1 T1c2 T1c3 T1f0 T1f1 T1f2 T1f3 S1c0 S1c1 S1f0 S1f1
 generalize w3.alloc (.cells #[.slice ax1 2 cx1,.slice ay1 1 cy1] 25)=w5 at T1 S1 H1 HB ⊢
 refine (rstdo_any H1.out (stOK_may lwM1).1 (by decide) (stOK_may lwM1).2 ⟨2,[97,110,110],[98,111,98],0,⟨0,0,0,[]⟩⟩ (by decide) (by decide) (by decide) lwA1).mono ?_
 rintro e w6 ⟨x2,y2,rfl,h2,b6⟩
 replace T1:=hD (upQ T1.out b6)
 replace S1:=hD (upQ S1.out b6)
 replace H1:=hD (H1.out.later b6)
 replace HB:=hD (below2Z HB.out b6)
 obtain⟨ax2,cx2,rfl⟩:=ents_shape h2.1 (n:=2) rfl
 obtain⟨ay2,cy2,rfl⟩:=rdS_shape h2.2 (n:=1) rfl
 have H2:=hD h2
 clear h2
 clear b6
 have b7:=bl_newZ w6 (.cells #[.slice ax2 2 cx2,.slice ay2 1 cy2] 25)
 have S2:=newQ w6 (.cells #[.slice ax2 2 cx2,.slice ay2 1 cy2] 25)
 have hS2:w.heap.size≤w6.heap.size:=HB.out.size
 replace T1:=hD (upQ T1.out b7)
 replace S1:=hD (upQ S1.out b7)
 replace H1:=hD (H1.out.later b7)
 replace H2:=hD (H2.out.later b7)
 replace HB:=hD (below2Z HB.out b7)
 clear b7
 replace S2:=hD S2
 obtain⟨⟨S1c0,S1c1⟩,⟨S1f0,S1f1⟩⟩:=blk2 S1.out
 obtain⟨⟨S2c0,S2c1⟩,⟨S2f0,S2f1⟩⟩:=blk2 S2.out
 go_wp2_with fail
 clear S1c0 S1c1 S1f0 S1f1 S2c0 S2c1 S2f0 S2f1
 generalize w6.alloc (.cells #[.slice ax2 2 cx2,.slice ay2 1 cy2] 25)=w8 at T1 S1 S2 H1 H2 HB ⊢
 refine (rstdo_any H2.out (stOK_may lwM2).1 (by decide) (stOK_may lwM2).2 ⟨5,[98,111,98],[97,110,110],0,⟨0,0,0,[]⟩⟩ (by decide) (by decide) (by decide) lwA2).mono ?_
 rintro e w9 ⟨x3,y3,rfl,h3,b9⟩
 replace T1:=hD (upQ T1.out b9)
 replace S1:=hD (upQ S1.out b9)
 replace S2:=hD (upQ S2.out b9)
 replace H1:=hD (H1.out.later b9)
 replace H2:=hD (H2.out.later b9)
 replace HB:=hD (below2Z HB.out b9)
 obtain⟨ax3,cx3,rfl⟩:=ents_shape h3.1 (n:=2) rfl
 obtain⟨ay3,cy3,rfl⟩:=rdS_shape h3.2 (n:=1) rfl
 have H3:=hD h3
 clear h3
 clear b9
 have b10:=bl_newZ w9 (.cells #[.slice ax3 2 cx3,.slice ay3 1 cy3] 25)
 have S3:=newQ w9 (.cells #[.slice ax3 2 cx3,.slice ay3 1 cy3] 25)
 have hS3:w.heap.size≤w9.heap.size:=HB.out.size
 replace T1:=hD (upQ T1.out b10)
 replace S1:=hD (upQ S1.out b10)
 replace S2:=hD (upQ S2.out b10)
 replace H1:=hD (H1.out.later b10)
 replace H2:=hD (H2.out.later b10)
 replace H3:=hD (H3.out.later b10)
 replace HB:=hD (below2Z HB.out b10)
 clear b10
 replace S3:=hD S3
 obtain⟨⟨S1c0,S1c1⟩,⟨S1f0,S1f1⟩⟩:=blk2 S1.out
 obtain⟨⟨S2c0,S2c1⟩,⟨S2f0,S2f1⟩⟩:=blk2 S2.out
 go_wp2_with fail
 clear S1c0 S1c1 S1f0 S1f1 S2c0 S2c1 S2f0 S2f1
 generalize w9.alloc (.cells #[.slice ax3 2 cx3,.slice ay3 1 cy3] 25)=w11 at T1 S1 S2 S3 H1 H2 H3 HB ⊢
 refine (vwvalue_any H2.out (stOK_may lwM2) [98,111,98] [97,110,110] (hD lwVa)).mono ?_
 rintro e w12 ⟨rfl,b12⟩
 replace T1:=hD (upQ T1.out b12)
 replace S1:=hD (upQ S1.out b12)
 replace S2:=hD (upQ S2.out b12)
 replace S3:=hD (upQ S3.out b12)
 replace H1:=hD (H1.out.later b12)
 replace H2:=hD (H2.out.later b12)
 replace H3:=hD (H3.out.later b12)
 replace HB:=hD (below2Z HB.out b12)
 clear b12
 have b13:=bl_newZ w12 (.cells #[.int .i64 4,.int .i64 2,.int .i64 0,.string ⟨#[]⟩] 30)
 have VA:=newQ w12 (.cells #[.int .i64 4,.int .i64 2,.int .i64 0,.string ⟨#[]⟩] 30)
 have hVA:w.heap.size≤w12.heap.size:=HB.out.size
 replace T1:=hD (upQ T1.out b13)
 replace S1:=hD (upQ S1.out b13)
 replace S2:=hD (upQ S2.out b13)
 replace S3:=hD (upQ S3.out b13)
 replace H1:=hD (H1.out.later b13)
 replace H2:=hD (H2.out.later b13)
 replace H3:=hD (H3.out.later b13)
 replace HB:=hD (below2Z HB.out b13)
 clear b13
 replace VA:=hD VA
 obtain⟨⟨S2c0,S2c1⟩,⟨S2f0,S2f1⟩⟩:=blk2 S2.out
 go_wp2_with fail
 clear S2c0 S2c1 S2f0 S2f1
 generalize w12.alloc (.cells #[.int .i64 4,.int .i64 2,.int .i64 0,.string ⟨#[]⟩] 30)=w14 at T1 S1 S2 S3 VA H1 H2 H3 HB ⊢
 refine (vwvalue_any H2.out (stOK_may lwM2) [97,110,110] [98,111,98] (hD lwVb)).mono ?_
 rintro e w15 ⟨rfl,b15⟩
 replace T1:=hD (upQ T1.out b15)
 replace S1:=hD (upQ S1.out b15)
 replace S2:=hD (upQ S2.out b15)
 replace S3:=hD (upQ S3.out b15)
 replace VA:=hD (upQ VA.out b15)
 replace H1:=hD (H1.out.later b15)
 replace H2:=hD (H2.out.later b15)
 replace H3:=hD (H3.out.later b15)
 replace HB:=hD (below2Z HB.out b15)
 clear b15
 have b16:=bl_newZ w15 (.cells #[.int .i64 0,.int .i64 0,.int .i64 0,.string ⟨#[]⟩] 30)
 have VB:=newQ w15 (.cells #[.int .i64 0,.int .i64 0,.int .i64 0,.string ⟨#[]⟩] 30)
 have hVB:w.heap.size≤w15.heap.size:=HB.out.size
 replace T1:=hD (upQ T1.out b16)
 replace S1:=hD (upQ S1.out b16)
 replace S2:=hD (upQ S2.out b16)
 replace S3:=hD (upQ S3.out b16)
 replace VA:=hD (upQ VA.out b16)
 replace H1:=hD (H1.out.later b16)
 replace H2:=hD (H2.out.later b16)
 replace H3:=hD (H3.out.later b16)
 replace HB:=hD (below2Z HB.out b16)
 clear b16
 replace VB:=hD VB
 obtain⟨⟨S1c0,S1c1⟩,⟨S1f0,S1f1⟩⟩:=blk2 S1.out
 obtain⟨⟨S2c0,S2c1⟩,⟨S2f0,S2f1⟩⟩:=blk2 S2.out
 go_wp2_with fail
 clear S1c0 S1c1 S1f0 S1f1 S2c0 S2c1 S2f0 S2f1
 generalize w15.alloc (.cells #[.int .i64 0,.int .i64 0,.int .i64 0,.string ⟨#[]⟩] 30)=w17 at T1 S1 S2 S3 VA VB H1 H2 H3 HB ⊢
 clear VB
 refine (vwbetween_any H1.out H2.out (stOK_may lwM1) (stOK_may lwM2) (by decide) (by decide) [98,111,98]).mono ?_
 rintro e w18 ⟨u7,rfl,hu7,b18⟩
 replace T1:=hD (upQ T1.out b18)
 replace S1:=hD (upQ S1.out b18)
 replace S2:=hD (upQ S2.out b18)
 replace S3:=hD (upQ S3.out b18)
 replace VA:=hD (upQ VA.out b18)
 replace H1:=hD (H1.out.later b18)
 replace H2:=hD (H2.out.later b18)
 replace H3:=hD (H3.out.later b18)
 replace HB:=hD (below2Z HB.out b18)
 rw [lwB1] at hu7
 obtain⟨a7,c7,rfl⟩:=chgs_shapeV hu7 (n:=1) rfl
 have U7:=hD hu7
 clear hu7
 clear b18
 obtain⟨⟨S2c0,S2c1⟩,⟨S2f0,S2f1⟩⟩:=blk2 S2.out
 obtain⟨⟨S3c0,S3c1⟩,⟨S3f0,S3f1⟩⟩:=blk2 S3.out
 go_wp2_with fail
 clear S2c0 S2c1 S2f0 S2f1 S3c0 S3c1 S3f0 S3f1
 refine (vwbetween_any H2.out H3.out (stOK_may lwM2) (stOK_may lwM3) (by decide) (by decide) [98,111,98]).mono ?_
 rintro e w19 ⟨u8,rfl,hu8,b19⟩
 replace T1:=hD (upQ T1.out b19)
 replace S1:=hD (upQ S1.out b19)
 replace S2:=hD (upQ S2.out b19)
 replace S3:=hD (upQ S3.out b19)
 replace VA:=hD (upQ VA.out b19)
 replace H1:=hD (H1.out.later b19)
 replace H2:=hD (H2.out.later b19)
 replace H3:=hD (H3.out.later b19)
 replace U7:=hD (U7.out.later b19)
 replace HB:=hD (below2Z HB.out b19)
 rw [lwB2] at hu8
 obtain⟨a8,c8,rfl⟩:=chgs_shapeV hu8 (n:=1) rfl
 have U8:=hD hu8
 clear hu8
 clear b19
 go_upto_region 9 with fail
 have e1:∀ w,(binOp .eql 30 (.agg #[.int .i64 4,.int .i64 2,.int .i64 0,.string ⟨#[]⟩]) (.agg #[.int .i64 4,.int .i64 2,.int .i64 0,.string ⟨#[]⟩])).run Tryz.prog w=.ok (.bool true) w:=fun w => val_eql_self 4 2 0 [] w
 have hgd:Tryz.prog.eqGuardType Tryz.prog.depth 30=false:=by kernel_rfl
 obtain⟨BS,hBS⟩ : ∃ BS:List (Nat × List Value),BS=[(w.heap.size,[.int .i64 4,.int .i64 2,.int .i64 0,.string ⟨#[]⟩]),(w3.heap.size,[.slice ax1 2 cx1,.slice ay1 1 cy1]),(w6.heap.size,[.slice ax2 2 cx2,.slice ay2 1 cy2]),(w9.heap.size,[.slice ax3 2 cx3,.slice ay3 1 cy3]),(w12.heap.size,[.int .i64 4,.int .i64 2,.int .i64 0,.string ⟨#[]⟩])]:=⟨_,rfl⟩
 have D0:=hD (show heldB w19 BS from by rw [hBS]; exact heldB_cons (cellsAt_block T1.out) (heldB_cons (cellsAt_block S1.out) (heldB_cons (cellsAt_block S2.out) (heldB_cons (cellsAt_block S3.out) (heldB_cons (cellsAt_block VA.out) (heldB_nil _))))))
 have hq0:∀ X,heldB X BS→X.cell? ⟨w.heap.size,0,none⟩=some (.int .i64 4):=fun X hx => heldB_get (vs:=[.int .i64 4,.int .i64 2,.int .i64 0,.string ⟨#[]⟩]) hx (by rw [hBS]; simp) rfl
 have hq1:∀ X,heldB X BS→X.cell? ⟨w.heap.size,1,none⟩=some (.int .i64 2):=fun X hx => heldB_get (vs:=[.int .i64 4,.int .i64 2,.int .i64 0,.string ⟨#[]⟩]) hx (by rw [hBS]; simp) rfl
 have hq2:∀ X,heldB X BS→X.cell? ⟨w.heap.size,2,none⟩=some (.int .i64 0):=fun X hx => heldB_get (vs:=[.int .i64 4,.int .i64 2,.int .i64 0,.string ⟨#[]⟩]) hx (by rw [hBS]; simp) rfl
 have hq3:∀ X,heldB X BS→X.cell? ⟨w.heap.size,3,none⟩=some (.string ⟨#[]⟩):=fun X hx => heldB_get (vs:=[.int .i64 4,.int .i64 2,.int .i64 0,.string ⟨#[]⟩]) hx (by rw [hBS]; simp) rfl
 have hq4:∀ X,heldB X BS→X.cell? ⟨w3.heap.size,0,none⟩=some (.slice ax1 2 cx1):=fun X hx => heldB_get (vs:=[.slice ax1 2 cx1,.slice ay1 1 cy1]) hx (by rw [hBS]; simp) rfl
 have hq5:∀ X,heldB X BS→X.cell? ⟨w3.heap.size,1,none⟩=some (.slice ay1 1 cy1):=fun X hx => heldB_get (vs:=[.slice ax1 2 cx1,.slice ay1 1 cy1]) hx (by rw [hBS]; simp) rfl
 have hq6:∀ X,heldB X BS→X.cell? ⟨w6.heap.size,0,none⟩=some (.slice ax2 2 cx2):=fun X hx => heldB_get (vs:=[.slice ax2 2 cx2,.slice ay2 1 cy2]) hx (by rw [hBS]; simp) rfl
 have hq7:∀ X,heldB X BS→X.cell? ⟨w6.heap.size,1,none⟩=some (.slice ay2 1 cy2):=fun X hx => heldB_get (vs:=[.slice ax2 2 cx2,.slice ay2 1 cy2]) hx (by rw [hBS]; simp) rfl
 have hq8:∀ X,heldB X BS→X.cell? ⟨w9.heap.size,0,none⟩=some (.slice ax3 2 cx3):=fun X hx => heldB_get (vs:=[.slice ax3 2 cx3,.slice ay3 1 cy3]) hx (by rw [hBS]; simp) rfl
 have hq9:∀ X,heldB X BS→X.cell? ⟨w9.heap.size,1,none⟩=some (.slice ay3 1 cy3):=fun X hx => heldB_get (vs:=[.slice ax3 2 cx3,.slice ay3 1 cy3]) hx (by rw [hBS]; simp) rfl
 have hq10:∀ X,heldB X BS→X.cell? ⟨w12.heap.size,0,none⟩=some (.int .i64 4):=fun X hx => heldB_get (vs:=[.int .i64 4,.int .i64 2,.int .i64 0,.string ⟨#[]⟩]) hx (by rw [hBS]; simp) rfl
 have hq11:∀ X,heldB X BS→X.cell? ⟨w12.heap.size,1,none⟩=some (.int .i64 2):=fun X hx => heldB_get (vs:=[.int .i64 4,.int .i64 2,.int .i64 0,.string ⟨#[]⟩]) hx (by rw [hBS]; simp) rfl
 have hq12:∀ X,heldB X BS→X.cell? ⟨w12.heap.size,2,none⟩=some (.int .i64 0):=fun X hx => heldB_get (vs:=[.int .i64 4,.int .i64 2,.int .i64 0,.string ⟨#[]⟩]) hx (by rw [hBS]; simp) rfl
 have hq13:∀ X,heldB X BS→X.cell? ⟨w12.heap.size,3,none⟩=some (.string ⟨#[]⟩):=fun X hx => heldB_get (vs:=[.int .i64 4,.int .i64 2,.int .i64 0,.string ⟨#[]⟩]) hx (by rw [hBS]; simp) rfl
 clear hBS
 have K0:Hid (Below w19.heap.size w19 w19.drew):=hD (Below.refl _ _).drew
 refine wp_region_held_drew (S:=(fun X => heldB X BS)) (by kernel_rfl) ?_ (fun hHeld => ?_)
 ·exact heldB_up K0.out D0.out
 generalize w19.drew=z0 at K0 hHeld ⊢
 refine wpAnyH_take (i:=0) (oi:=⟨some 52,.load 25 (.tmp 2),25,"law.go:26",#[],none⟩) (v:=?_) rfl (by as_aux_lemma => kernel_rfl) (by as_aux_lemma => kernel_rfl) (by as_aux_lemma => kernel_rfl) (fun _ _ _ h => h) (Or.inl ⟨by rfl,?_⟩) (by assumption) ?_
 rotate_left
 ·intro w' hSw
  try dsimp only at hSw
  go_simp
  try with_reducible rfl
 try simp only [Act.put,List.setIfInBounds_toArray,List.set_cons_zero,List.set_cons_succ]
 refine wpAnyH_ready (rs:=[1]) (by as_aux_lemma => kernel_rfl) (by simp) ?_
 refine AllReadyH.cons (o:=⟨some 53,.call { callee:=.value (.func 18),args:=#[.tmp 52,.const (.string { data:=#[98,111,98] })],argTypes:=#[25,9] },34,"law.go:26",#[⟨0,.data⟩],none⟩) rfl (fun Kx hK => ?_) AllReadyH.nil
 go_simp
 refine (vwof_any (H1.out.later K0.out) (stOK_may lwM1) (by decide) [98,111,98]).mono ?_
 rintro e z501 ⟨vO1,rfl,hO1,bz501⟩
 have K501:=hD (below2Z K0.out bz501)
 have D501:=hD (heldB_up K501.out D0.out)
 rw [lwO1] at hO1
 obtain⟨aO1,cO1,rfl⟩:=tab_shapeV hO1.tab (n:=0) rfl
 have O1:=hD hO1.tab
 clear hO1
 clear bz501
 go_wp2_with fail
 refine hK.out _ _ ?_ (fun hHeld2 => ?_)
 ·exact D501.out
 clear hK Kx hHeld
 have hHeld:=hHeld2
 clear hHeld2
 try simp only [Act.put,List.setIfInBounds_toArray,List.set_cons_zero,List.set_cons_succ]
 refine wpAnyH_take (i:=2) (oi:=⟨some 54,.call { callee:=.builtin .len,args:=#[.tmp 53],argTypes:=#[34] },3,"law.go:26",#[⟨1,.data⟩],none⟩) (v:=?_) rfl (by as_aux_lemma => kernel_rfl) (by as_aux_lemma => kernel_rfl) (by as_aux_lemma => kernel_rfl) (fun _ _ _ h => h) (Or.inl ⟨by rfl,?_⟩) (by assumption) ?_
 rotate_left
 ·intro w' hSw
  try dsimp only at hSw
  go_simp
  try with_reducible rfl
 try simp only [Act.put,List.setIfInBounds_toArray,List.set_cons_zero,List.set_cons_succ]
 refine wpAnyH_take (i:=3) (oi:=⟨some 55,.binOp .eql 3 (.tmp 54) (.const (.int .i64 0)) 3,4,"law.go:26",#[⟨2,.data⟩],none⟩) (v:=?_) rfl (by as_aux_lemma => kernel_rfl) (by as_aux_lemma => kernel_rfl) (by as_aux_lemma => kernel_rfl) (fun _ _ _ h => h) (Or.inl ⟨by rfl,?_⟩) (by assumption) ?_
 rotate_left
 ·intro w' hSw
  try dsimp only at hSw
  go_simp
  try with_reducible rfl
 try simp only [Act.put,List.setIfInBounds_toArray,List.set_cons_zero,List.set_cons_succ]
 refine wpAnyH_take (i:=4) (oi:=⟨some 56,.move (.tmp 55),4,"law.go:26",#[⟨3,.data⟩,⟨1,.chain⟩],none⟩) (v:=?_) rfl (by as_aux_lemma => kernel_rfl) (by as_aux_lemma => kernel_rfl) (by as_aux_lemma => kernel_rfl) (fun _ _ _ h => h) (Or.inl ⟨by rfl,?_⟩) (by assumption) ?_
 rotate_left
 ·intro w' hSw
  try dsimp only at hSw
  go_simp
  try with_reducible rfl
 try simp only [Act.put,List.setIfInBounds_toArray,List.set_cons_zero,List.set_cons_succ]
 refine wpAnyH_take (i:=5) (oi:=⟨some 57,.load 25 (.tmp 4),25,"law.go:26",#[⟨4,.guard⟩],some (4,true)⟩) (v:=?_) rfl (by as_aux_lemma => kernel_rfl) (by as_aux_lemma => kernel_rfl) (by as_aux_lemma => kernel_rfl) (fun _ _ _ h => h) (Or.inl ⟨by rfl,?_⟩) (by assumption) ?_
 rotate_left
 ·intro w' hSw
  try dsimp only at hSw
  go_simp
  try with_reducible rfl
 try simp only [Act.put,List.setIfInBounds_toArray,List.set_cons_zero,List.set_cons_succ]
 refine wpAnyH_take (i:=7) (oi:=⟨some 59,.load 30 (.tmp 1),30,"law.go:26",#[⟨4,.guard⟩],some (4,true)⟩) (v:=?_) rfl (by as_aux_lemma => kernel_rfl) (by as_aux_lemma => kernel_rfl) (by as_aux_lemma => kernel_rfl) (fun _ _ _ h => h) (Or.inl ⟨by rfl,?_⟩) (by assumption) ?_
 rotate_left
 ·intro w' hSw
  try dsimp only at hSw
  go_simp
  try with_reducible rfl
 try simp only [Act.put,List.setIfInBounds_toArray,List.set_cons_zero,List.set_cons_succ]
 refine wpAnyH_take (i:=8) (oi:=⟨some 60,.build 45 #[(0,.const (.string { data:=#[97,110,110] })),(1,.tmp 59)],45,"law.go:26",#[⟨7,.data⟩,⟨4,.guard⟩],some (4,true)⟩) (v:=?_) rfl (by as_aux_lemma => kernel_rfl) (by as_aux_lemma => kernel_rfl) (by as_aux_lemma => kernel_rfl) (fun _ _ _ h => h) (Or.inl ⟨by rfl,?_⟩) (by assumption) ?_
 rotate_left
 ·intro w' hSw
  try dsimp only at hSw
  go_simp
  try with_reducible rfl
 try simp only [Act.put,List.setIfInBounds_toArray,List.set_cons_zero,List.set_cons_succ]
 refine wpAnyH_ready (rs:=[6,9]) (by as_aux_lemma => kernel_rfl) (by simp) ?_
 refine AllReadyH.cons (o:=⟨some 58,.call { callee:=.value (.func 18),args:=#[.tmp 57,.const (.string { data:=#[98,111,98] })],argTypes:=#[25,9] },34,"law.go:26",#[⟨5,.data⟩,⟨4,.chain⟩,⟨4,.guard⟩],some (4,true)⟩) rfl (fun Kx hK => ?_) (AllReadyH.cons (o:=⟨some 61,.buildSlice 34 1 #[(0,.tmp 60)],34,"law.go:26",#[⟨8,.data⟩,⟨4,.guard⟩],some (4,true)⟩) rfl (fun Kx hK => ?_) (AllReadyH.nil))
 all_goals
  first
  | (
    go_simp
    refine (vwof_any (H2.out.later K501.out) (stOK_may lwM2) (by decide) [98,111,98]).mono ?_
    rintro e z506 ⟨vO2,rfl,hO2,bz506⟩
    have K506:=hD (below2Z K501.out bz506)
    have D506:=hD (heldB_up K506.out D0.out)
    replace O1:=hD (Tab.later O1.out bz506)
    rw [lwO2] at hO2
    obtain⟨aO2,cO2,rfl⟩:=tab_shapeV hO2.tab (n:=1) rfl
    have O2:=hD hO2.tab
    clear hO2
    clear bz506
    go_wp2_with fail
    refine hK.out _ _ ?_ (fun hHeld2 => ?_)
    ·exact D506.out
    clear hK Kx hHeld
    have hHeld:=hHeld2
    clear hHeld2
    try simp only [Act.put,List.setIfInBounds_toArray,List.set_cons_zero,List.set_cons_succ]
    refine wpAnyH_ready (rs:=[9]) (by as_aux_lemma => kernel_rfl) (by simp) ?_
    refine AllReadyH.cons (o:=⟨some 61,.buildSlice 34 1 #[(0,.tmp 60)],34,"law.go:26",#[⟨8,.data⟩,⟨4,.guard⟩],some (4,true)⟩) rfl (fun Kx hK => ?_) AllReadyH.nil
    go_simp
    refine hK.out _ _ ?_ (fun hHeld2 => ?_)
    ·exact heldB_up (below2Z K506.out (bl_newZ _ _)) D0.out
    clear hK Kx hHeld
    have hHeld:=hHeld2
    clear hHeld2
    try simp only [Act.put,List.setIfInBounds_toArray,List.set_cons_zero,List.set_cons_succ]
    have bz509:=bl_newZ z506 (.cells #[.string ⟨#[97,110,110]⟩,.int .i64 4,.int .i64 2,.int .i64 0,.string ⟨#[]⟩] 45)
    have K509:=hD (below2Z K506.out bz509)
    have D509:=hD (heldB_up K509.out D0.out)
    have nz509:=hD ((MapKept.heap_alloc z506 (.cells #[.string ⟨#[97,110,110]⟩,.int .i64 4,.int .i64 2,.int .i64 0,.string ⟨#[]⟩] 45)).1)
    have hB509:w19.heap.size≤z506.heap.size:=(K506.out).size
    replace O1:=hD (Tab.later O1.out bz509)
    replace O2:=hD (Tab.later O2.out bz509)
    have MS:=hD (tab_made z506 z506.heap.size rfl 45 [⟨[97,110,110],⟨4,2,0,[]⟩⟩] (by decide) #[.string ⟨#[97,110,110]⟩,.int .i64 4,.int .i64 2,.int .i64 0,.string ⟨#[]⟩] rfl 1 rfl)
    clear bz509
    generalize z506.alloc (.cells #[.string ⟨#[97,110,110]⟩,.int .i64 4,.int .i64 2,.int .i64 0,.string ⟨#[]⟩] 45)=z509 at K509 D509 nz509 O1 O2 MS hHeld ⊢
    generalize z506.heap.size=B509 at nz509 hB509 MS ⊢
    obtain⟨zg1,hzg1⟩ : ∃ X,X=z509:=⟨_,rfl⟩
    subst hzg1
    have Kg1:=K509
    have Dg1:=hD (heldB_up Kg1.out D0.out))
  | (
    go_simp
    refine hK.out _ _ ?_ (fun hHeld2 => ?_)
    ·exact heldB_up (below2Z K501.out (bl_newZ _ _)) D0.out
    clear hK Kx hHeld
    have hHeld:=hHeld2
    clear hHeld2
    try simp only [Act.put,List.setIfInBounds_toArray,List.set_cons_zero,List.set_cons_succ]
    have bz509:=bl_newZ z501 (.cells #[.string ⟨#[97,110,110]⟩,.int .i64 4,.int .i64 2,.int .i64 0,.string ⟨#[]⟩] 45)
    have K509:=hD (below2Z K501.out bz509)
    have D509:=hD (heldB_up K509.out D0.out)
    have nz509:=hD ((MapKept.heap_alloc z501 (.cells #[.string ⟨#[97,110,110]⟩,.int .i64 4,.int .i64 2,.int .i64 0,.string ⟨#[]⟩] 45)).1)
    have hB509:w19.heap.size≤z501.heap.size:=(K501.out).size
    replace O1:=hD (Tab.later O1.out bz509)
    have MS:=hD (tab_made z501 z501.heap.size rfl 45 [⟨[97,110,110],⟨4,2,0,[]⟩⟩] (by decide) #[.string ⟨#[97,110,110]⟩,.int .i64 4,.int .i64 2,.int .i64 0,.string ⟨#[]⟩] rfl 1 rfl)
    clear bz509
    generalize z501.alloc (.cells #[.string ⟨#[97,110,110]⟩,.int .i64 4,.int .i64 2,.int .i64 0,.string ⟨#[]⟩] 45)=z509 at K509 D509 nz509 O1 MS hHeld ⊢
    generalize z501.heap.size=B509 at nz509 hB509 MS ⊢
    refine wpAnyH_ready (rs:=[6]) (by as_aux_lemma => kernel_rfl) (by simp) ?_
    refine AllReadyH.cons (o:=⟨some 58,.call { callee:=.value (.func 18),args:=#[.tmp 57,.const (.string { data:=#[98,111,98] })],argTypes:=#[25,9] },34,"law.go:26",#[⟨5,.data⟩,⟨4,.chain⟩,⟨4,.guard⟩],some (4,true)⟩) rfl (fun Kx hK => ?_) AllReadyH.nil
    go_simp
    refine (vwof_any (H2.out.later K509.out) (stOK_may lwM2) (by decide) [98,111,98]).mono ?_
    rintro e z506 ⟨vO2,rfl,hO2,bz506⟩
    have K506:=hD (below2Z K509.out bz506)
    have D506:=hD (heldB_up K506.out D0.out)
    replace O1:=hD (Tab.later O1.out bz506)
    replace nz509:=hD (((bz506).block _ (Array.getElem?_eq_some_iff.1 (nz509.out)).1).trans (nz509.out))
    replace MS:=hD ((MS.out).later bz506)
    rw [lwO2] at hO2
    obtain⟨aO2,cO2,rfl⟩:=tab_shapeV hO2.tab (n:=1) rfl
    have O2:=hD hO2.tab
    clear hO2
    clear bz506
    go_wp2_with fail
    refine hK.out _ _ ?_ (fun hHeld2 => ?_)
    ·exact D506.out
    clear hK Kx hHeld
    have hHeld:=hHeld2
    clear hHeld2
    try simp only [Act.put,List.setIfInBounds_toArray,List.set_cons_zero,List.set_cons_succ]
    obtain⟨zg1,hzg1⟩ : ∃ X,X=z506:=⟨_,rfl⟩
    subst hzg1
    have Kg1:=K506
    have Dg1:=hD (heldB_up Kg1.out D0.out))
 all_goals
  refine wpAnyH_ready (rs:=[10]) (by as_aux_lemma => kernel_rfl) (by simp) ?_
  refine AllReadyH.cons (o:=⟨some 62,.call { callee:=.value (.func 17),args:=#[.tmp 58,.tmp 61],argTypes:=#[34,34] },4,"law.go:26",#[⟨6,.data⟩,⟨9,.data⟩,⟨6,.chain⟩,⟨4,.guard⟩],some (4,true)⟩) rfl (fun Kx hK => ?_) AllReadyH.nil
  go_simp
  refine (tsame_eq O2.out MS.out (hD (tSame_iff.2 rfl))).mono ?_
  rintro e z510 ⟨rfl,bz510⟩
  have K510:=hD (below2Z Kg1.out bz510)
  have D510:=hD (heldB_up K510.out D0.out)
  replace O1:=hD (Tab.later O1.out bz510)
  replace O2:=hD (Tab.later O2.out bz510)
  replace nz509:=hD (((bz510).block _ (Array.getElem?_eq_some_iff.1 (nz509.out)).1).trans (nz509.out))
  replace MS:=hD ((MS.out).later bz510)
  clear bz510
  go_wp2_with fail
  refine hK.out _ _ ?_ (fun hHeld2 => ?_)
  ·exact D510.out
  clear hK Kx hHeld
  have hHeld:=hHeld2
  clear hHeld2
  try simp only [Act.put,List.setIfInBounds_toArray,List.set_cons_zero,List.set_cons_succ]
  refine wpAnyH_take (i:=11) (oi:=⟨some 63,.pick (.tmp 56) (.tmp 62) (.const (.bool false)),4,"law.go:26",#[⟨4,.data⟩,⟨10,.data⟩],none⟩) (v:=?_) rfl (by as_aux_lemma => kernel_rfl) (by as_aux_lemma => kernel_rfl) (by as_aux_lemma => kernel_rfl) (fun _ _ _ h => h) (Or.inl ⟨by rfl,?_⟩) (by assumption) ?_
  rotate_left
  ·intro w' hSw
   try dsimp only at hSw
   go_simp
   try with_reducible rfl
  try simp only [Act.put,List.setIfInBounds_toArray,List.set_cons_zero,List.set_cons_succ]
  refine wpAnyH_take (i:=12) (oi:=⟨some 64,.move (.tmp 63),4,"law.go:26",#[⟨11,.data⟩,⟨10,.chain⟩],none⟩) (v:=?_) rfl (by as_aux_lemma => kernel_rfl) (by as_aux_lemma => kernel_rfl) (by as_aux_lemma => kernel_rfl) (fun _ _ _ h => h) (Or.inl ⟨by rfl,?_⟩) (by assumption) ?_
  rotate_left
  ·intro w' hSw
   try dsimp only at hSw
   go_simp
   try with_reducible rfl
  try simp only [Act.put,List.setIfInBounds_toArray,List.set_cons_zero,List.set_cons_succ]
  refine wpAnyH_take (i:=13) (oi:=⟨some 65,.load 30 (.tmp 8),30,"law.go:26",#[⟨12,.guard⟩],some (12,true)⟩) (v:=?_) rfl (by as_aux_lemma => kernel_rfl) (by as_aux_lemma => kernel_rfl) (by as_aux_lemma => kernel_rfl) (fun _ _ _ h => h) (Or.inl ⟨by rfl,?_⟩) (by assumption) ?_
  rotate_left
  ·intro w' hSw
   try dsimp only at hSw
   go_simp
   try with_reducible rfl
  try simp only [Act.put,List.setIfInBounds_toArray,List.set_cons_zero,List.set_cons_succ]
  refine wpAnyH_take (i:=14) (oi:=⟨some 66,.load 30 (.tmp 1),30,"law.go:26",#[⟨12,.guard⟩],some (12,true)⟩) (v:=?_) rfl (by as_aux_lemma => kernel_rfl) (by as_aux_lemma => kernel_rfl) (by as_aux_lemma => kernel_rfl) (fun _ _ _ h => h) (Or.inl ⟨by rfl,?_⟩) (by assumption) ?_
  rotate_left
  ·intro w' hSw
   try dsimp only at hSw
   go_simp
   try with_reducible rfl
  try simp only [Act.put,List.setIfInBounds_toArray,List.set_cons_zero,List.set_cons_succ]
  refine wpAnyH_take (i:=15) (oi:=⟨some 67,.binOp .eql 30 (.tmp 65) (.tmp 66) 30,4,"law.go:26",#[⟨13,.data⟩,⟨14,.data⟩,⟨12,.guard⟩],some (12,true)⟩) (v:=?_) rfl (by as_aux_lemma => kernel_rfl) (by as_aux_lemma => kernel_rfl) (by as_aux_lemma => kernel_rfl) (fun _ _ _ h => h) (Or.inl ⟨by rfl,?_⟩) (by assumption) ?_
  rotate_left
  ·intro w' hSw
   try dsimp only at hSw
   go_simp
   try with_reducible rfl
  try simp only [Act.put,List.setIfInBounds_toArray,List.set_cons_zero,List.set_cons_succ]
  refine wpAnyH_take (i:=16) (oi:=⟨some 68,.pick (.tmp 64) (.tmp 67) (.const (.bool false)),4,"law.go:26",#[⟨12,.data⟩,⟨15,.data⟩],none⟩) (v:=?_) rfl (by as_aux_lemma => kernel_rfl) (by as_aux_lemma => kernel_rfl) (by as_aux_lemma => kernel_rfl) (fun _ _ _ h => h) (Or.inl ⟨by rfl,?_⟩) (by assumption) ?_
  rotate_left
  ·intro w' hSw
   try dsimp only at hSw
   go_simp
   try with_reducible rfl
  try simp only [Act.put,List.setIfInBounds_toArray,List.set_cons_zero,List.set_cons_succ]
  refine wpAnyH_take (i:=17) (oi:=⟨some 69,.move (.tmp 68),4,"law.go:26",#[⟨16,.data⟩,⟨12,.chain⟩],none⟩) (v:=?_) rfl (by as_aux_lemma => kernel_rfl) (by as_aux_lemma => kernel_rfl) (by as_aux_lemma => kernel_rfl) (fun _ _ _ h => h) (Or.inl ⟨by rfl,?_⟩) (by assumption) ?_
  rotate_left
  ·intro w' hSw
   try dsimp only at hSw
   go_simp
   try with_reducible rfl
  try simp only [Act.put,List.setIfInBounds_toArray,List.set_cons_zero,List.set_cons_succ]
  refine wpAnyH_take (i:=18) (oi:=⟨some 70,.move (.tmp 9),4,"law.go:26",#[⟨17,.guard⟩],some (17,true)⟩) (v:=?_) rfl (by as_aux_lemma => kernel_rfl) (by as_aux_lemma => kernel_rfl) (by as_aux_lemma => kernel_rfl) (fun _ _ _ h => h) (Or.inl ⟨by rfl,?_⟩) (by assumption) ?_
  rotate_left
  ·intro w' hSw
   try dsimp only at hSw
   go_simp
   try with_reducible rfl
  try simp only [Act.put,List.setIfInBounds_toArray,List.set_cons_zero,List.set_cons_succ]
  refine wpAnyH_take (i:=19) (oi:=⟨some 71,.pick (.tmp 69) (.tmp 70) (.const (.bool false)),4,"law.go:26",#[⟨17,.data⟩,⟨18,.data⟩],none⟩) (v:=?_) rfl (by as_aux_lemma => kernel_rfl) (by as_aux_lemma => kernel_rfl) (by as_aux_lemma => kernel_rfl) (fun _ _ _ h => h) (Or.inl ⟨by rfl,?_⟩) (by assumption) ?_
  rotate_left
  ·intro w' hSw
   try dsimp only at hSw
   go_simp
   try with_reducible rfl
  try simp only [Act.put,List.setIfInBounds_toArray,List.set_cons_zero,List.set_cons_succ]
  refine wpAnyH_take (i:=20) (oi:=⟨some 72,.move (.tmp 71),4,"law.go:26",#[⟨19,.data⟩,⟨17,.chain⟩],none⟩) (v:=?_) rfl (by as_aux_lemma => kernel_rfl) (by as_aux_lemma => kernel_rfl) (by as_aux_lemma => kernel_rfl) (fun _ _ _ h => h) (Or.inl ⟨by rfl,?_⟩) (by assumption) ?_
  rotate_left
  ·intro w' hSw
   try dsimp only at hSw
   go_simp
   try with_reducible rfl
  try simp only [Act.put,List.setIfInBounds_toArray,List.set_cons_zero,List.set_cons_succ]
  refine wpAnyH_take (i:=21) (oi:=⟨some 73,.move (.tmp 11),4,"law.go:26",#[⟨20,.guard⟩],some (20,true)⟩) (v:=?_) rfl (by as_aux_lemma => kernel_rfl) (by as_aux_lemma => kernel_rfl) (by as_aux_lemma => kernel_rfl) (fun _ _ _ h => h) (Or.inl ⟨by rfl,?_⟩) (by assumption) ?_
  rotate_left
  ·intro w' hSw
   try dsimp only at hSw
   go_simp
   try with_reducible rfl
  try simp only [Act.put,List.setIfInBounds_toArray,List.set_cons_zero,List.set_cons_succ]
  refine wpAnyH_take (i:=22) (oi:=⟨some 74,.unOp .not 4 (.tmp 73),4,"law.go:26",#[⟨21,.data⟩,⟨20,.guard⟩],some (20,true)⟩) (v:=?_) rfl (by as_aux_lemma => kernel_rfl) (by as_aux_lemma => kernel_rfl) (by as_aux_lemma => kernel_rfl) (fun _ _ _ h => h) (Or.inl ⟨by rfl,?_⟩) (by assumption) ?_
  rotate_left
  ·intro w' hSw
   try dsimp only at hSw
   go_simp
   try with_reducible rfl
  try simp only [Act.put,List.setIfInBounds_toArray,List.set_cons_zero,List.set_cons_succ]
  refine wpAnyH_take (i:=23) (oi:=⟨some 75,.pick (.tmp 72) (.tmp 74) (.const (.bool false)),4,"law.go:26",#[⟨20,.data⟩,⟨22,.data⟩],none⟩) (v:=?_) rfl (by as_aux_lemma => kernel_rfl) (by as_aux_lemma => kernel_rfl) (by as_aux_lemma => kernel_rfl) (fun _ _ _ h => h) (Or.inl ⟨by rfl,?_⟩) (by assumption) ?_
  rotate_left
  ·intro w' hSw
   try dsimp only at hSw
   go_simp
   try with_reducible rfl
  try simp only [Act.put,List.setIfInBounds_toArray,List.set_cons_zero,List.set_cons_succ]
  refine wpAnyH_take (i:=24) (oi:=⟨some 76,.move (.tmp 75),4,"law.go:26",#[⟨23,.data⟩,⟨20,.chain⟩],none⟩) (v:=?_) rfl (by as_aux_lemma => kernel_rfl) (by as_aux_lemma => kernel_rfl) (by as_aux_lemma => kernel_rfl) (fun _ _ _ h => h) (Or.inl ⟨by rfl,?_⟩) (by assumption) ?_
  rotate_left
  ·intro w' hSw
   try dsimp only at hSw
   go_simp
   try with_reducible rfl
  try simp only [Act.put,List.setIfInBounds_toArray,List.set_cons_zero,List.set_cons_succ]
  refine wpAnyH_take (i:=25) (oi:=⟨some 77,.load 25 (.tmp 4),25,"law.go:26",#[⟨24,.guard⟩],some (24,true)⟩) (v:=?_) rfl (by as_aux_lemma => kernel_rfl) (by as_aux_lemma => kernel_rfl) (by as_aux_lemma => kernel_rfl) (fun _ _ _ h => h) (Or.inl ⟨by rfl,?_⟩) (by assumption) ?_
  rotate_left
  ·intro w' hSw
   try dsimp only at hSw
   go_simp
   try with_reducible rfl
  try simp only [Act.put,List.setIfInBounds_toArray,List.set_cons_zero,List.set_cons_succ]
  refine wpAnyH_ready (rs:=[26,27]) (by as_aux_lemma => kernel_rfl) (by simp) ?_
  refine AllReadyH.cons (o:=⟨some 78,.call { callee:=.value (.func 21),args:=#[.tmp 77,.const (.string { data:=#[97,110,110] })],argTypes:=#[25,9] },37,"law.go:26",#[⟨25,.data⟩,⟨24,.chain⟩,⟨24,.guard⟩],some (24,true)⟩) rfl (fun Kx hK => ?_) (AllReadyH.cons (o:=⟨some 79,.buildSlice 37 1 #[(0,.const (.string { data:=#[98,111,98] }))],37,"law.go:26",#[⟨24,.guard⟩],some (24,true)⟩) rfl (fun Kx hK => ?_) (AllReadyH.nil))
  all_goals
   first
   | (
     go_simp
     refine (vwwat_any (H2.out.later K510.out) (stOK_may lwM2) (by decide) [97,110,110]).mono ?_
     rintro e z526 ⟨vW2,rfl,hW2,bz526⟩
     have K526:=hD (below2Z K510.out bz526)
     have D526:=hD (heldB_up K526.out D0.out)
     replace O1:=hD (Tab.later O1.out bz526)
     replace O2:=hD (Tab.later O2.out bz526)
     replace nz509:=hD (((bz526).block _ (Array.getElem?_eq_some_iff.1 (nz509.out)).1).trans (nz509.out))
     replace MS:=hD ((MS.out).later bz526)
     rw [lwW2] at hW2
     obtain⟨aW2,cW2,rfl⟩:=texts_shape hW2 (n:=1) rfl
     have W2:=hD hW2
     clear hW2
     clear bz526
     go_wp2_with fail
     refine hK.out _ _ ?_ (fun hHeld2 => ?_)
     ·exact D526.out
     clear hK Kx hHeld
     have hHeld:=hHeld2
     clear hHeld2
     try simp only [Act.put,List.setIfInBounds_toArray,List.set_cons_zero,List.set_cons_succ]
     refine wpAnyH_ready (rs:=[27]) (by as_aux_lemma => kernel_rfl) (by simp) ?_
     refine AllReadyH.cons (o:=⟨some 79,.buildSlice 37 1 #[(0,.const (.string { data:=#[98,111,98] }))],37,"law.go:26",#[⟨24,.guard⟩],some (24,true)⟩) rfl (fun Kx hK => ?_) AllReadyH.nil
     go_simp
     refine hK.out _ _ ?_ (fun hHeld2 => ?_)
     ·exact heldB_up (below2Z K526.out (bl_newZ _ _)) D0.out
     clear hK Kx hHeld
     have hHeld:=hHeld2
     clear hHeld2
     try simp only [Act.put,List.setIfInBounds_toArray,List.set_cons_zero,List.set_cons_succ]
     have bz527:=bl_newZ z526 (.cells #[.string ⟨#[98,111,98]⟩] 9)
     have K527:=hD (below2Z K526.out bz527)
     have D527:=hD (heldB_up K527.out D0.out)
     have nz527:=hD ((MapKept.heap_alloc z526 (.cells #[.string ⟨#[98,111,98]⟩] 9)).1)
     have hB527:w19.heap.size≤z526.heap.size:=(K526.out).size
     replace O1:=hD (Tab.later O1.out bz527)
     replace O2:=hD (Tab.later O2.out bz527)
     replace nz509:=hD (((bz527).block _ (Array.getElem?_eq_some_iff.1 (nz509.out)).1).trans (nz509.out))
     replace MS:=hD ((MS.out).later bz527)
     replace W2:=hD (Texts.later W2.out bz527)
     have MT:=hD (texts_made z526 9 z526.heap.size rfl [[98,111,98]] (by decide) #[.string ⟨#[98,111,98]⟩] rfl 1 rfl)
     clear bz527
     generalize z526.alloc (.cells #[.string ⟨#[98,111,98]⟩] 9)=z527 at K527 D527 nz527 O1 O2 nz509 MS W2 MT hHeld ⊢
     generalize z526.heap.size=B527 at nz527 hB527 MT ⊢
     obtain⟨zg2,hzg2⟩ : ∃ X,X=z527:=⟨_,rfl⟩
     subst hzg2
     have Kg2:=K527
     have Dg2:=hD (heldB_up Kg2.out D0.out))
   | (
     go_simp
     refine hK.out _ _ ?_ (fun hHeld2 => ?_)
     ·exact heldB_up (below2Z K510.out (bl_newZ _ _)) D0.out
     clear hK Kx hHeld
     have hHeld:=hHeld2
     clear hHeld2
     try simp only [Act.put,List.setIfInBounds_toArray,List.set_cons_zero,List.set_cons_succ]
     have bz527:=bl_newZ z510 (.cells #[.string ⟨#[98,111,98]⟩] 9)
     have K527:=hD (below2Z K510.out bz527)
     have D527:=hD (heldB_up K527.out D0.out)
     have nz527:=hD ((MapKept.heap_alloc z510 (.cells #[.string ⟨#[98,111,98]⟩] 9)).1)
     have hB527:w19.heap.size≤z510.heap.size:=(K510.out).size
     replace O1:=hD (Tab.later O1.out bz527)
     replace O2:=hD (Tab.later O2.out bz527)
     replace nz509:=hD (((bz527).block _ (Array.getElem?_eq_some_iff.1 (nz509.out)).1).trans (nz509.out))
     replace MS:=hD ((MS.out).later bz527)
     have MT:=hD (texts_made z510 9 z510.heap.size rfl [[98,111,98]] (by decide) #[.string ⟨#[98,111,98]⟩] rfl 1 rfl)
     clear bz527
     generalize z510.alloc (.cells #[.string ⟨#[98,111,98]⟩] 9)=z527 at K527 D527 nz527 O1 O2 nz509 MS MT hHeld ⊢
     generalize z510.heap.size=B527 at nz527 hB527 MT ⊢
     refine wpAnyH_ready (rs:=[26]) (by as_aux_lemma => kernel_rfl) (by simp) ?_
     refine AllReadyH.cons (o:=⟨some 78,.call { callee:=.value (.func 21),args:=#[.tmp 77,.const (.string { data:=#[97,110,110] })],argTypes:=#[25,9] },37,"law.go:26",#[⟨25,.data⟩,⟨24,.chain⟩,⟨24,.guard⟩],some (24,true)⟩) rfl (fun Kx hK => ?_) AllReadyH.nil
     go_simp
     refine (vwwat_any (H2.out.later K527.out) (stOK_may lwM2) (by decide) [97,110,110]).mono ?_
     rintro e z526 ⟨vW2,rfl,hW2,bz526⟩
     have K526:=hD (below2Z K527.out bz526)
     have D526:=hD (heldB_up K526.out D0.out)
     replace O1:=hD (Tab.later O1.out bz526)
     replace O2:=hD (Tab.later O2.out bz526)
     replace nz509:=hD (((bz526).block _ (Array.getElem?_eq_some_iff.1 (nz509.out)).1).trans (nz509.out))
     replace MS:=hD ((MS.out).later bz526)
     replace nz527:=hD (((bz526).block _ (Array.getElem?_eq_some_iff.1 (nz527.out)).1).trans (nz527.out))
     replace MT:=hD ((MT.out).later bz526)
     rw [lwW2] at hW2
     obtain⟨aW2,cW2,rfl⟩:=texts_shape hW2 (n:=1) rfl
     have W2:=hD hW2
     clear hW2
     clear bz526
     go_wp2_with fail
     refine hK.out _ _ ?_ (fun hHeld2 => ?_)
     ·exact D526.out
     clear hK Kx hHeld
     have hHeld:=hHeld2
     clear hHeld2
     try simp only [Act.put,List.setIfInBounds_toArray,List.set_cons_zero,List.set_cons_succ]
     obtain⟨zg2,hzg2⟩ : ∃ X,X=z526:=⟨_,rfl⟩
     subst hzg2
     have Kg2:=K526
     have Dg2:=hD (heldB_up Kg2.out D0.out))
  all_goals
   refine wpAnyH_ready (rs:=[28]) (by as_aux_lemma => kernel_rfl) (by simp) ?_
   refine AllReadyH.cons (o:=⟨some 80,.call { callee:=.value (.func 20),args:=#[.tmp 78,.tmp 79],argTypes:=#[37,37] },4,"law.go:26",#[⟨26,.data⟩,⟨27,.data⟩,⟨26,.chain⟩,⟨24,.guard⟩],some (24,true)⟩) rfl (fun Kx hK => ?_) AllReadyH.nil
   go_simp
   refine (same_yes W2.out MT.out (by decide)).mono ?_
   rintro e z528 ⟨rfl,bz528⟩
   have K528:=hD (below2Z Kg2.out bz528)
   have D528:=hD (heldB_up K528.out D0.out)
   replace O1:=hD (Tab.later O1.out bz528)
   replace O2:=hD (Tab.later O2.out bz528)
   replace nz509:=hD (((bz528).block _ (Array.getElem?_eq_some_iff.1 (nz509.out)).1).trans (nz509.out))
   replace MS:=hD ((MS.out).later bz528)
   replace W2:=hD (Texts.later W2.out bz528)
   replace nz527:=hD (((bz528).block _ (Array.getElem?_eq_some_iff.1 (nz527.out)).1).trans (nz527.out))
   replace MT:=hD ((MT.out).later bz528)
   clear bz528
   go_wp2_with fail
   refine hK.out _ _ ?_ (fun hHeld2 => ?_)
   ·exact D528.out
   clear hK Kx hHeld
   have hHeld:=hHeld2
   clear hHeld2
   try simp only [Act.put,List.setIfInBounds_toArray,List.set_cons_zero,List.set_cons_succ]
   refine wpAnyH_take (i:=29) (oi:=⟨some 81,.pick (.tmp 76) (.tmp 80) (.const (.bool false)),4,"law.go:26",#[⟨24,.data⟩,⟨28,.data⟩],none⟩) (v:=?_) rfl (by as_aux_lemma => kernel_rfl) (by as_aux_lemma => kernel_rfl) (by as_aux_lemma => kernel_rfl) (fun _ _ _ h => h) (Or.inl ⟨by rfl,?_⟩) (by assumption) ?_
   rotate_left
   ·intro w' hSw
    try dsimp only at hSw
    go_simp
    try with_reducible rfl
   try simp only [Act.put,List.setIfInBounds_toArray,List.set_cons_zero,List.set_cons_succ]
   refine wpAnyH_take (i:=30) (oi:=⟨some 82,.move (.tmp 81),4,"law.go:26",#[⟨29,.data⟩,⟨28,.chain⟩],none⟩) (v:=?_) rfl (by as_aux_lemma => kernel_rfl) (by as_aux_lemma => kernel_rfl) (by as_aux_lemma => kernel_rfl) (fun _ _ _ h => h) (Or.inl ⟨by rfl,?_⟩) (by assumption) ?_
   rotate_left
   ·intro w' hSw
    try dsimp only at hSw
    go_simp
    try with_reducible rfl
   try simp only [Act.put,List.setIfInBounds_toArray,List.set_cons_zero,List.set_cons_succ]
   refine wpAnyH_take (i:=31) (oi:=⟨some 83,.load 25 (.tmp 6),25,"law.go:26",#[⟨30,.guard⟩],some (30,true)⟩) (v:=?_) rfl (by as_aux_lemma => kernel_rfl) (by as_aux_lemma => kernel_rfl) (by as_aux_lemma => kernel_rfl) (fun _ _ _ h => h) (Or.inl ⟨by rfl,?_⟩) (by assumption) ?_
   rotate_left
   ·intro w' hSw
    try dsimp only at hSw
    go_simp
    try with_reducible rfl
   try simp only [Act.put,List.setIfInBounds_toArray,List.set_cons_zero,List.set_cons_succ]
   refine wpAnyH_ready (rs:=[32]) (by as_aux_lemma => kernel_rfl) (by simp) ?_
   refine AllReadyH.cons (o:=⟨some 84,.call { callee:=.value (.func 21),args:=#[.tmp 83,.const (.string { data:=#[97,110,110] })],argTypes:=#[25,9] },37,"law.go:26",#[⟨31,.data⟩,⟨30,.chain⟩,⟨30,.guard⟩],some (30,true)⟩) rfl (fun Kx hK => ?_) AllReadyH.nil
   go_simp
   refine (vwwat_any (H3.out.later K528.out) (stOK_may lwM3) (by decide) [97,110,110]).mono ?_
   rintro e z532 ⟨vW3,rfl,hW3,bz532⟩
   have K532:=hD (below2Z K528.out bz532)
   have D532:=hD (heldB_up K532.out D0.out)
   replace O1:=hD (Tab.later O1.out bz532)
   replace O2:=hD (Tab.later O2.out bz532)
   replace nz509:=hD (((bz532).block _ (Array.getElem?_eq_some_iff.1 (nz509.out)).1).trans (nz509.out))
   replace MS:=hD ((MS.out).later bz532)
   replace W2:=hD (Texts.later W2.out bz532)
   replace nz527:=hD (((bz532).block _ (Array.getElem?_eq_some_iff.1 (nz527.out)).1).trans (nz527.out))
   replace MT:=hD ((MT.out).later bz532)
   rw [lwW3] at hW3
   obtain⟨aW3,cW3,rfl⟩:=texts_shape hW3 (n:=0) rfl
   have W3:=hD hW3
   clear hW3
   clear bz532
   go_wp2_with fail
   refine hK.out _ _ ?_ (fun hHeld2 => ?_)
   ·exact D532.out
   clear hK Kx hHeld
   have hHeld:=hHeld2
   clear hHeld2
   try simp only [Act.put,List.setIfInBounds_toArray,List.set_cons_zero,List.set_cons_succ]
   refine wpAnyH_take (i:=33) (oi:=⟨some 85,.call { callee:=.builtin .len,args:=#[.tmp 84],argTypes:=#[37] },3,"law.go:26",#[⟨32,.data⟩,⟨30,.guard⟩],some (30,true)⟩) (v:=?_) rfl (by as_aux_lemma => kernel_rfl) (by as_aux_lemma => kernel_rfl) (by as_aux_lemma => kernel_rfl) (fun _ _ _ h => h) (Or.inl ⟨by rfl,?_⟩) (by assumption) ?_
   rotate_left
   ·intro w' hSw
    try dsimp only at hSw
    go_simp
    try with_reducible rfl
   try simp only [Act.put,List.setIfInBounds_toArray,List.set_cons_zero,List.set_cons_succ]
   refine wpAnyH_take (i:=34) (oi:=⟨some 86,.binOp .eql 3 (.tmp 85) (.const (.int .i64 0)) 3,4,"law.go:26",#[⟨33,.data⟩,⟨30,.guard⟩],some (30,true)⟩) (v:=?_) rfl (by as_aux_lemma => kernel_rfl) (by as_aux_lemma => kernel_rfl) (by as_aux_lemma => kernel_rfl) (fun _ _ _ h => h) (Or.inl ⟨by rfl,?_⟩) (by assumption) ?_
   rotate_left
   ·intro w' hSw
    try dsimp only at hSw
    go_simp
    try with_reducible rfl
   try simp only [Act.put,List.setIfInBounds_toArray,List.set_cons_zero,List.set_cons_succ]
   refine wpAnyH_take (i:=35) (oi:=⟨some 87,.pick (.tmp 82) (.tmp 86) (.const (.bool false)),4,"law.go:26",#[⟨30,.data⟩,⟨34,.data⟩],none⟩) (v:=?_) rfl (by as_aux_lemma => kernel_rfl) (by as_aux_lemma => kernel_rfl) (by as_aux_lemma => kernel_rfl) (fun _ _ _ h => h) (Or.inl ⟨by rfl,?_⟩) (by assumption) ?_
   rotate_left
   ·intro w' hSw
    try dsimp only at hSw
    go_simp
    try with_reducible rfl
   try simp only [Act.put,List.setIfInBounds_toArray,List.set_cons_zero,List.set_cons_succ]
   refine wpAnyH_take (i:=36) (oi:=⟨some 88,.move (.tmp 87),4,"law.go:26",#[⟨35,.data⟩,⟨32,.chain⟩],none⟩) (v:=?_) rfl (by as_aux_lemma => kernel_rfl) (by as_aux_lemma => kernel_rfl) (by as_aux_lemma => kernel_rfl) (fun _ _ _ h => h) (Or.inl ⟨by rfl,?_⟩) (by assumption) ?_
   rotate_left
   ·intro w' hSw
    try dsimp only at hSw
    go_simp
    try with_reducible rfl
   try simp only [Act.put,List.setIfInBounds_toArray,List.set_cons_zero,List.set_cons_succ]
   refine wpAnyH_take (i:=37) (oi:=⟨some 89,.move (.tmp 12),40,"law.go:26",#[⟨36,.guard⟩],some (36,true)⟩) (v:=?_) rfl (by as_aux_lemma => kernel_rfl) (by as_aux_lemma => kernel_rfl) (by as_aux_lemma => kernel_rfl) (fun _ _ _ h => h) (Or.inl ⟨by rfl,?_⟩) (by assumption) ?_
   rotate_left
   ·intro w' hSw
    try dsimp only at hSw
    go_simp
    try with_reducible rfl
   try simp only [Act.put,List.setIfInBounds_toArray,List.set_cons_zero,List.set_cons_succ]
   refine wpAnyH_take (i:=38) (oi:=⟨some 90,.load 30 (.tmp 1),30,"law.go:26",#[⟨36,.guard⟩],some (36,true)⟩) (v:=?_) rfl (by as_aux_lemma => kernel_rfl) (by as_aux_lemma => kernel_rfl) (by as_aux_lemma => kernel_rfl) (fun _ _ _ h => h) (Or.inl ⟨by rfl,?_⟩) (by assumption) ?_
   rotate_left
   ·intro w' hSw
    try dsimp only at hSw
    go_simp
    try with_reducible rfl
   try simp only [Act.put,List.setIfInBounds_toArray,List.set_cons_zero,List.set_cons_succ]
   refine wpAnyH_take (i:=39) (oi:=⟨some 91,.build 57 #[(0,.const (.string { data:=#[97,110,110] })),(1,.const (.bool true)),(2,.tmp 90)],57,"law.go:26",#[⟨38,.data⟩,⟨36,.guard⟩],some (36,true)⟩) (v:=?_) rfl (by as_aux_lemma => kernel_rfl) (by as_aux_lemma => kernel_rfl) (by as_aux_lemma => kernel_rfl) (fun _ _ _ h => h) (Or.inl ⟨by rfl,?_⟩) (by assumption) ?_
   rotate_left
   ·intro w' hSw
    try dsimp only at hSw
    go_simp
    try with_reducible rfl
   try simp only [Act.put,List.setIfInBounds_toArray,List.set_cons_zero,List.set_cons_succ]
   refine wpAnyH_ready (rs:=[40]) (by as_aux_lemma => kernel_rfl) (by simp) ?_
   refine AllReadyH.cons (o:=⟨some 92,.buildSlice 40 1 #[(0,.tmp 91)],40,"law.go:26",#[⟨39,.data⟩,⟨36,.guard⟩],some (36,true)⟩) rfl (fun Kx hK => ?_) AllReadyH.nil
   go_simp
   refine hK.out _ _ ?_ (fun hHeld2 => ?_)
   ·exact heldB_up (below2Z K532.out (bl_newZ _ _)) D0.out
   clear hK Kx hHeld
   have hHeld:=hHeld2
   clear hHeld2
   try simp only [Act.put,List.setIfInBounds_toArray,List.set_cons_zero,List.set_cons_succ]
   have bz540:=bl_newZ z532 (.cells #[.string ⟨#[97,110,110]⟩,.bool true,.int .i64 4,.int .i64 2,.int .i64 0,.string ⟨#[]⟩] 57)
   have K540:=hD (below2Z K532.out bz540)
   have D540:=hD (heldB_up K540.out D0.out)
   have nz540:=hD ((MapKept.heap_alloc z532 (.cells #[.string ⟨#[97,110,110]⟩,.bool true,.int .i64 4,.int .i64 2,.int .i64 0,.string ⟨#[]⟩] 57)).1)
   have hB540:w19.heap.size≤z532.heap.size:=(K532.out).size
   replace O1:=hD (Tab.later O1.out bz540)
   replace O2:=hD (Tab.later O2.out bz540)
   replace nz509:=hD (((bz540).block _ (Array.getElem?_eq_some_iff.1 (nz509.out)).1).trans (nz509.out))
   replace MS:=hD ((MS.out).later bz540)
   replace W2:=hD (Texts.later W2.out bz540)
   replace nz527:=hD (((bz540).block _ (Array.getElem?_eq_some_iff.1 (nz527.out)).1).trans (nz527.out))
   replace MT:=hD ((MT.out).later bz540)
   replace W3:=hD (Texts.later W3.out bz540)
   have MC:=hD (chgs_of (rdS_made chgOK (w:=z532) (cs:=#[.string ⟨#[97,110,110]⟩,.bool true,.int .i64 4,.int .i64 2,.int .i64 0,.string ⟨#[]⟩]) (l:=[⟨[97,110,110],true,⟨4,2,0,[]⟩⟩]) rfl (by decide) rfl))
   clear bz540
   generalize z532.alloc (.cells #[.string ⟨#[97,110,110]⟩,.bool true,.int .i64 4,.int .i64 2,.int .i64 0,.string ⟨#[]⟩] 57)=z540 at K540 D540 nz540 O1 O2 nz509 MS W2 nz527 MT W3 MC hHeld ⊢
   generalize z532.heap.size=B540 at nz540 hB540 MC ⊢
   refine wpAnyH_ready (rs:=[41]) (by as_aux_lemma => kernel_rfl) (by simp) ?_
   refine AllReadyH.cons (o:=⟨some 93,.call { callee:=.value (.func 23),args:=#[.tmp 89,.tmp 92],argTypes:=#[40,40] },4,"law.go:26",#[⟨37,.data⟩,⟨40,.data⟩,⟨36,.chain⟩,⟨36,.guard⟩],some (36,true)⟩) rfl (fun Kx hK => ?_) AllReadyH.nil
   go_simp
   refine (csame_yes (U7.out.later K540.out) MC.out).mono ?_
   rintro e z541 ⟨rfl,bz541⟩
   have K541:=hD (below2Z K540.out bz541)
   have D541:=hD (heldB_up K541.out D0.out)
   replace O1:=hD (Tab.later O1.out bz541)
   replace O2:=hD (Tab.later O2.out bz541)
   replace nz509:=hD (((bz541).block _ (Array.getElem?_eq_some_iff.1 (nz509.out)).1).trans (nz509.out))
   replace MS:=hD ((MS.out).later bz541)
   replace W2:=hD (Texts.later W2.out bz541)
   replace nz527:=hD (((bz541).block _ (Array.getElem?_eq_some_iff.1 (nz527.out)).1).trans (nz527.out))
   replace MT:=hD ((MT.out).later bz541)
   replace W3:=hD (Texts.later W3.out bz541)
   replace nz540:=hD (((bz541).block _ (Array.getElem?_eq_some_iff.1 (nz540.out)).1).trans (nz540.out))
   replace MC:=hD ((MC.out).later bz541)
   clear bz541
   go_wp2_with fail
   refine hK.out _ _ ?_ (fun hHeld2 => ?_)
   ·exact D541.out
   clear hK Kx hHeld
   have hHeld:=hHeld2
   clear hHeld2
   try simp only [Act.put,List.setIfInBounds_toArray,List.set_cons_zero,List.set_cons_succ]
   refine wpAnyH_take (i:=42) (oi:=⟨some 94,.pick (.tmp 88) (.tmp 93) (.const (.bool false)),4,"law.go:26",#[⟨36,.data⟩,⟨41,.data⟩],none⟩) (v:=?_) rfl (by as_aux_lemma => kernel_rfl) (by as_aux_lemma => kernel_rfl) (by as_aux_lemma => kernel_rfl) (fun _ _ _ h => h) (Or.inl ⟨by rfl,?_⟩) (by assumption) ?_
   rotate_left
   ·intro w' hSw
    try dsimp only at hSw
    go_simp
    try with_reducible rfl
   try simp only [Act.put,List.setIfInBounds_toArray,List.set_cons_zero,List.set_cons_succ]
   refine wpAnyH_take (i:=43) (oi:=⟨some 95,.move (.tmp 94),4,"law.go:26",#[⟨42,.data⟩,⟨41,.chain⟩],none⟩) (v:=?_) rfl (by as_aux_lemma => kernel_rfl) (by as_aux_lemma => kernel_rfl) (by as_aux_lemma => kernel_rfl) (fun _ _ _ h => h) (Or.inl ⟨by rfl,?_⟩) (by assumption) ?_
   rotate_left
   ·intro w' hSw
    try dsimp only at hSw
    go_simp
    try with_reducible rfl
   try simp only [Act.put,List.setIfInBounds_toArray,List.set_cons_zero,List.set_cons_succ]
   refine wpAnyH_take (i:=44) (oi:=⟨some 96,.move (.tmp 13),40,"law.go:26",#[⟨43,.guard⟩],some (43,true)⟩) (v:=?_) rfl (by as_aux_lemma => kernel_rfl) (by as_aux_lemma => kernel_rfl) (by as_aux_lemma => kernel_rfl) (fun _ _ _ h => h) (Or.inl ⟨by rfl,?_⟩) (by assumption) ?_
   rotate_left
   ·intro w' hSw
    try dsimp only at hSw
    go_simp
    try with_reducible rfl
   try simp only [Act.put,List.setIfInBounds_toArray,List.set_cons_zero,List.set_cons_succ]
   refine wpAnyH_take (i:=45) (oi:=⟨some 97,.build 57 #[(0,.const (.string { data:=#[97,110,110] }))],57,"law.go:26",#[⟨43,.guard⟩],some (43,true)⟩) (v:=?_) rfl (by as_aux_lemma => kernel_rfl) (by as_aux_lemma => kernel_rfl) (by as_aux_lemma => kernel_rfl) (fun _ _ _ h => h) (Or.inl ⟨by rfl,?_⟩) (by assumption) ?_
   rotate_left
   ·intro w' hSw
    try dsimp only at hSw
    go_simp
    try with_reducible rfl
   try simp only [Act.put,List.setIfInBounds_toArray,List.set_cons_zero,List.set_cons_succ]
   refine wpAnyH_ready (rs:=[46]) (by as_aux_lemma => kernel_rfl) (by simp) ?_
   refine AllReadyH.cons (o:=⟨some 98,.buildSlice 40 1 #[(0,.tmp 97)],40,"law.go:26",#[⟨45,.data⟩,⟨43,.guard⟩],some (43,true)⟩) rfl (fun Kx hK => ?_) AllReadyH.nil
   go_simp
   refine hK.out _ _ ?_ (fun hHeld2 => ?_)
   ·exact heldB_up (below2Z K541.out (bl_newZ _ _)) D0.out
   clear hK Kx hHeld
   have hHeld:=hHeld2
   clear hHeld2
   try simp only [Act.put,List.setIfInBounds_toArray,List.set_cons_zero,List.set_cons_succ]
   have bz546:=bl_newZ z541 (.cells #[.string ⟨#[97,110,110]⟩,.bool false,.int .i64 0,.int .i64 0,.int .i64 0,.string ⟨#[]⟩] 57)
   have K546:=hD (below2Z K541.out bz546)
   have D546:=hD (heldB_up K546.out D0.out)
   have nz546:=hD ((MapKept.heap_alloc z541 (.cells #[.string ⟨#[97,110,110]⟩,.bool false,.int .i64 0,.int .i64 0,.int .i64 0,.string ⟨#[]⟩] 57)).1)
   have hB546:w19.heap.size≤z541.heap.size:=(K541.out).size
   replace O1:=hD (Tab.later O1.out bz546)
   replace O2:=hD (Tab.later O2.out bz546)
   replace nz509:=hD (((bz546).block _ (Array.getElem?_eq_some_iff.1 (nz509.out)).1).trans (nz509.out))
   replace MS:=hD ((MS.out).later bz546)
   replace W2:=hD (Texts.later W2.out bz546)
   replace nz527:=hD (((bz546).block _ (Array.getElem?_eq_some_iff.1 (nz527.out)).1).trans (nz527.out))
   replace MT:=hD ((MT.out).later bz546)
   replace W3:=hD (Texts.later W3.out bz546)
   replace nz540:=hD (((bz546).block _ (Array.getElem?_eq_some_iff.1 (nz540.out)).1).trans (nz540.out))
   replace MC:=hD ((MC.out).later bz546)
   have MD:=hD (chgs_of (rdS_made chgOK (w:=z541) (cs:=#[.string ⟨#[97,110,110]⟩,.bool false,.int .i64 0,.int .i64 0,.int .i64 0,.string ⟨#[]⟩]) (l:=[⟨[97,110,110],false,⟨0,0,0,[]⟩⟩]) rfl (by decide) rfl))
   clear bz546
   generalize z541.alloc (.cells #[.string ⟨#[97,110,110]⟩,.bool false,.int .i64 0,.int .i64 0,.int .i64 0,.string ⟨#[]⟩] 57)=z546 at K546 D546 nz546 O1 O2 nz509 MS W2 nz527 MT W3 nz540 MC MD hHeld ⊢
   generalize z541.heap.size=B546 at nz546 hB546 MD ⊢
   refine wpAnyH_ready (rs:=[47]) (by as_aux_lemma => kernel_rfl) (by simp) ?_
   refine AllReadyH.cons (o:=⟨some 99,.call { callee:=.value (.func 23),args:=#[.tmp 96,.tmp 98],argTypes:=#[40,40] },4,"law.go:26",#[⟨44,.data⟩,⟨46,.data⟩,⟨43,.chain⟩,⟨43,.guard⟩],some (43,true)⟩) rfl (fun Kx hK => ?_) AllReadyH.nil
   go_simp
   refine (csame_yes (U8.out.later K546.out) MD.out).mono ?_
   rintro e z547 ⟨rfl,bz547⟩
   have K547:=hD (below2Z K546.out bz547)
   have D547:=hD (heldB_up K547.out D0.out)
   replace O1:=hD (Tab.later O1.out bz547)
   replace O2:=hD (Tab.later O2.out bz547)
   replace nz509:=hD (((bz547).block _ (Array.getElem?_eq_some_iff.1 (nz509.out)).1).trans (nz509.out))
   replace MS:=hD ((MS.out).later bz547)
   replace W2:=hD (Texts.later W2.out bz547)
   replace nz527:=hD (((bz547).block _ (Array.getElem?_eq_some_iff.1 (nz527.out)).1).trans (nz527.out))
   replace MT:=hD ((MT.out).later bz547)
   replace W3:=hD (Texts.later W3.out bz547)
   replace nz540:=hD (((bz547).block _ (Array.getElem?_eq_some_iff.1 (nz540.out)).1).trans (nz540.out))
   replace MC:=hD ((MC.out).later bz547)
   replace nz546:=hD (((bz547).block _ (Array.getElem?_eq_some_iff.1 (nz546.out)).1).trans (nz546.out))
   replace MD:=hD ((MD.out).later bz547)
   clear bz547
   go_wp2_with fail
   refine hK.out _ _ ?_ (fun hHeld2 => ?_)
   ·exact D547.out
   clear hK Kx hHeld
   have hHeld:=hHeld2
   clear hHeld2
   try simp only [Act.put,List.setIfInBounds_toArray,List.set_cons_zero,List.set_cons_succ]
   refine wpAnyH_take (i:=48) (oi:=⟨some 100,.pick (.tmp 95) (.tmp 99) (.const (.bool false)),4,"law.go:26",#[⟨43,.data⟩,⟨47,.data⟩],none⟩) (v:=?_) rfl (by as_aux_lemma => kernel_rfl) (by as_aux_lemma => kernel_rfl) (by as_aux_lemma => kernel_rfl) (fun _ _ _ h => h) (Or.inl ⟨by rfl,?_⟩) (by assumption) ?_
   rotate_left
   ·intro w' hSw
    try dsimp only at hSw
    go_simp
    try with_reducible rfl
   try simp only [Act.put,List.setIfInBounds_toArray,List.set_cons_zero,List.set_cons_succ]
   refine wpAnyH_take (i:=49) (oi:=⟨some 0,.assign (.tmp 100),4,"law.go:26",#[⟨48,.data⟩,⟨47,.chain⟩,⟨0,.phase⟩,⟨1,.phase⟩,⟨2,.phase⟩,⟨3,.phase⟩,⟨4,.phase⟩,⟨5,.phase⟩,⟨6,.phase⟩,⟨7,.phase⟩,⟨8,.phase⟩,⟨9,.phase⟩,⟨10,.phase⟩,⟨11,.phase⟩,⟨12,.phase⟩,⟨13,.phase⟩,⟨14,.phase⟩,⟨15,.phase⟩,⟨16,.phase⟩,⟨17,.phase⟩,⟨18,.phase⟩,⟨19,.phase⟩,⟨20,.phase⟩,⟨21,.phase⟩,⟨22,.phase⟩,⟨23,.phase⟩,⟨24,.phase⟩,⟨25,.phase⟩,⟨26,.phase⟩,⟨27,.phase⟩,⟨28,.phase⟩,⟨29,.phase⟩,⟨30,.phase⟩,⟨31,.phase⟩,⟨32,.phase⟩,⟨33,.phase⟩,⟨34,.phase⟩,⟨35,.phase⟩,⟨36,.phase⟩,⟨37,.phase⟩,⟨38,.phase⟩,⟨39,.phase⟩,⟨40,.phase⟩,⟨41,.phase⟩,⟨42,.phase⟩,⟨43,.phase⟩,⟨44,.phase⟩,⟨45,.phase⟩,⟨46,.phase⟩,⟨47,.phase⟩,⟨48,.phase⟩],none⟩) (v:=?_) rfl (by as_aux_lemma => kernel_rfl) (by as_aux_lemma => kernel_rfl) (by as_aux_lemma => kernel_rfl) (fun _ _ _ h => h) (Or.inl ⟨by rfl,?_⟩) (by assumption) ?_
   rotate_left
   ·intro w' hSw
    try dsimp only at hSw
    go_simp
    try with_reducible rfl
   try simp only [Act.put,List.setIfInBounds_toArray,List.set_cons_zero]
   refine wpAnyH_done (by kernel_rfl) ?_ _
   replace HB:=hD (below2Z HB.out K547.out)
   go_wp2_with fail
   go_ret
   exact⟨rfl,HB.out⟩

end Go.Proofs.YtphfinlfabklmaaGreat
