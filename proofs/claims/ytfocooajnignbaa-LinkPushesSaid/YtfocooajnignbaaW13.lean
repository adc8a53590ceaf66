/-
 TEXTS OF THE PROOF, one behind the other: LnkLive.
-/
import Derived.Test.YtfocooajnignbaaW05
import Derived.Test.YtfocooajnignbaaW12

set_option maxHeartbeats 12800000
set_option maxRecDepth 100000

namespace Go.Proofs.Ytfocooajnignbaa
open Go.RowKit

theorem tab_oneL {W:World} {B:Nat} {c st:List UInt8} {a b d:Int} (h:CellsAt W B 0 [.string ⟨c.toArray⟩,.int .i64 a,.int .i64 b,.int .i64 d,.string ⟨st.toArray⟩]):Tab W (.slice (some ⟨B,0,none⟩) 1 1) [⟨c,⟨a,b,d,st⟩⟩]:=by
 refine ⟨_,1,rfl,by simp,by decide,(fun e => by cases e),.inr ⟨B,0,rfl,World.block_lt_of_cell? W _ (h 0 _ rfl),fun i hi => ?_⟩⟩
 obtain rfl:i=0:=by simpa using hi
 exact⟨h 0 _ rfl,h 1 _ rfl,h 2 _ rfl,h 3 _ rfl,h 4 _ rfl⟩

theorem tab_nilL (X:World):Tab X (.slice none 0 0) []:=OwnR.tab (ownR_nil X 0)

theorem short_nilL:Short []:=fun r h => by cases h

theorem lnk_q1:Hid (lnNew ⟨2,2,1,5⟩ 10=(⟨0,⟨[],false⟩,⟨2,10⟩,true,10⟩,0)):=by show _=_; kernel_rfl
theorem lnk_q2:Hid (lnNew ⟨0,0,0,0⟩ 10=(⟨0,⟨[],false⟩,⟨0,0⟩,false,0⟩,1)):=by show _=_; kernel_rfl
theorem lnk_q3:Hid (lnEmit ⟨2,2,1,5⟩ ⟨0,⟨[],false⟩,⟨2,10⟩,true,10⟩ [⟨[97],⟨4,0,0,[]⟩⟩] 10=(⟨1,⟨[],false⟩,⟨1,10⟩,false,10⟩,[⟨3,0,false,[],Val.zero,0,[⟨[97],⟨4,0,0,[]⟩⟩]⟩])):=by show _=_; kernel_rfl
theorem lnk_q4:Hid (lnPush ⟨2,2,1,5⟩ ⟨1,⟨[],false⟩,⟨1,10⟩,false,10⟩ ⟨[97],false,⟨0,0,0,[]⟩⟩=⟨1,⟨[⟨[97],false,⟨0,0,0,[]⟩⟩],false⟩,⟨1,10⟩,false,10⟩):=by show _=_; kernel_rfl
theorem lnk_q5:Hid (lnPush ⟨2,2,1,5⟩ ⟨1,⟨[⟨[97],false,⟨0,0,0,[]⟩⟩],false⟩,⟨1,10⟩,false,10⟩ ⟨[98],false,⟨0,0,0,[]⟩⟩=⟨1,⟨[⟨[97],false,⟨0,0,0,[]⟩⟩,⟨[98],false,⟨0,0,0,[]⟩⟩],false⟩,⟨1,10⟩,false,10⟩):=by show _=_; kernel_rfl
theorem lnk_q6:Hid (lnEmit ⟨2,2,1,5⟩ ⟨1,⟨[⟨[97],false,⟨0,0,0,[]⟩⟩,⟨[98],false,⟨0,0,0,[]⟩⟩],false⟩,⟨1,10⟩,false,10⟩ [] 10=(⟨2,⟨[⟨[98],false,⟨0,0,0,[]⟩⟩],false⟩,⟨0,10⟩,false,10⟩,[⟨1,1,false,[97],⟨0,0,0,[]⟩,0,[]⟩])):=by show _=_; kernel_rfl
theorem lnk_q7:Hid (lnEmit ⟨2,2,1,5⟩ ⟨2,⟨[⟨[98],false,⟨0,0,0,[]⟩⟩],false⟩,⟨0,10⟩,false,10⟩ [] 10=(⟨2,⟨[⟨[98],false,⟨0,0,0,[]⟩⟩],false⟩,⟨0,10⟩,false,10⟩,[])):=by show _=_; kernel_rfl
theorem lnk_q8:Hid (lnEmit ⟨2,2,1,5⟩ ⟨2,⟨[⟨[98],false,⟨0,0,0,[]⟩⟩],false⟩,⟨0,10⟩,false,10⟩ [] 16=(⟨4,⟨[],false⟩,⟨0,16⟩,false,16⟩,[⟨1,2,false,[98],⟨0,0,0,[]⟩,0,[]⟩,⟨2,3,false,[],Val.zero,diSum [],[]⟩])):=by show _=_; kernel_rfl
theorem lnk_q9:Hid (lnPush ⟨2,2,1,5⟩ ⟨1,⟨[⟨[97],false,⟨0,0,0,[]⟩⟩,⟨[98],false,⟨0,0,0,[]⟩⟩],false⟩,⟨1,10⟩,false,10⟩ ⟨[99],false,⟨0,0,0,[]⟩⟩=⟨1,⟨[],false⟩,⟨1,10⟩,true,10⟩):=by show _=_; kernel_rfl
theorem lnk_q10:Hid (lnQuiet ⟨4,⟨[],false⟩,⟨0,16⟩,false,16⟩=true):=by show _=_; kernel_rfl
theorem lnk_q11:Hid (lnQuiet ⟨2,⟨[⟨[98],false,⟨0,0,0,[]⟩⟩],false⟩,⟨0,10⟩,false,10⟩=false):=by show _=_; kernel_rfl
theorem lnk_q12:Hid (lnMay ⟨2,2,1,5⟩ ⟨4,⟨[],false⟩,⟨0,16⟩,false,16⟩=true):=by show _=_; kernel_rfl
theorem lnk_q13:Hid (lnMay ⟨2,2,1,5⟩ ⟨-1,⟨[],false⟩,⟨0,0⟩,false,0⟩=false):=by show _=_; kernel_rfl
theorem lnk_s1:Short [⟨[97],⟨4,0,0,[]⟩⟩]:=by intro r hr; simp only [List.mem_singleton] at hr; subst hr; exact⟨by decide,by decide⟩
theorem lnk_s2:ShortC [⟨[97],false,⟨0,0,0,[]⟩⟩,⟨[98],false,⟨0,0,0,[]⟩⟩]:=by intro r hr; simp only [List.mem_cons,List.not_mem_nil,or_false] at hr; rcases hr with rfl | rfl <;> exact⟨by decide,by decide⟩
theorem lnk_s3:ShortC [⟨[98],false,⟨0,0,0,[]⟩⟩]:=by intro r hr; simp only [List.mem_singleton] at hr; subst hr; exact⟨by decide,by decide⟩
theorem shortC_nilL:ShortC []:=fun r h => by cases h

set_option maxRecDepth 1000000 in
theorem live18 (w:World):Calls Try.prog 6 #[] w fun e w' => e=.returned (.bool true)∧Below w.heap.size w w':=by
 have HB:=hZq (Below.refl w.heap.size w)
 go_enter Try.func6,Try.ntmps6
 have b1:=bl_newZ w (.cells #[.int .i64 2,.int .i64 2,.int .i64 1,.int .i64 5] 23)
 have CB:=newQ w (.cells #[.int .i64 2,.int .i64 2,.int .i64 1,.int .i64 5] 23)
 have hCB:w.heap.size≤w.heap.size:=HB.out.size
 replace HB:=hZq (below2Z HB.out b1)
 clear b1
 replace CB:=hZq CB
 have b2:=bl_newZ (w.alloc (.cells #[.int .i64 2,.int .i64 2,.int .i64 1,.int .i64 5] 23)) (.cells #[.int .i64 4,.int .i64 0,.int .i64 0,.string ⟨#[]⟩] 40)
 have VB:=newQ (w.alloc (.cells #[.int .i64 2,.int .i64 2,.int .i64 1,.int .i64 5] 23)) (.cells #[.int .i64 4,.int .i64 0,.int .i64 0,.string ⟨#[]⟩] 40)
 have hVB:w.heap.size≤(w.alloc (.cells #[.int .i64 2,.int .i64 2,.int .i64 1,.int .i64 5] 23)).heap.size:=HB.out.size
 rw [World.size_alloc] at VB hVB
 replace CB:=hZq (upQ CB.out b2)
 replace HB:=hZq (below2Z HB.out b2)
 clear b2
 replace VB:=hZq VB
 have b3:=bl_newZ ((w.alloc (.cells #[.int .i64 2,.int .i64 2,.int .i64 1,.int .i64 5] 23)).alloc (.cells #[.int .i64 4,.int .i64 0,.int .i64 0,.string ⟨#[]⟩] 40)) (.cells #[.string ⟨#[97]⟩,.int .i64 4,.int .i64 0,.int .i64 0,.string ⟨#[]⟩] 55)
 have TK:=newQ ((w.alloc (.cells #[.int .i64 2,.int .i64 2,.int .i64 1,.int .i64 5] 23)).alloc (.cells #[.int .i64 4,.int .i64 0,.int .i64 0,.string ⟨#[]⟩] 40)) (.cells #[.string ⟨#[97]⟩,.int .i64 4,.int .i64 0,.int .i64 0,.string ⟨#[]⟩] 55)
 have hTK:w.heap.size≤((w.alloc (.cells #[.int .i64 2,.int .i64 2,.int .i64 1,.int .i64 5] 23)).alloc (.cells #[.int .i64 4,.int .i64 0,.int .i64 0,.string ⟨#[]⟩] 40)).heap.size:=HB.out.size
 rw [World.size_alloc,World.size_alloc] at TK hTK
 replace CB:=hZq (upQ CB.out b3)
 replace VB:=hZq (upQ VB.out b3)
 replace HB:=hZq (below2Z HB.out b3)
 clear b3
 replace TK:=hZq TK
 go_upto_region 4 with fail
 generalize ((w.alloc (.cells #[.int .i64 2,.int .i64 2,.int .i64 1,.int .i64 5] 23)).alloc (.cells #[.int .i64 4,.int .i64 0,.int .i64 0,.string ⟨#[]⟩] 40)).alloc (.cells #[.string ⟨#[97]⟩,.int .i64 4,.int .i64 0,.int .i64 0,.string ⟨#[]⟩] 55)=w4 at CB VB TK HB ⊢
 have T:=hZq (tab_oneL (c:=[97]) (a:=4) (b:=0) (d:=0) (st:=[]) (cellsAt_block TK.out))
 clear VB
 clear TK
 have CBo:=blk4 CB.out
 go_wp2_with fail
 clear CBo
 refine (lnew_eq 2 2 1 5 10 lnk_q1 _).mono ?_
 rintro e w5 ⟨rfl,b5⟩
 replace CB:=hZq (upQ CB.out b5)
 replace T:=hZq (Tab.later T.out b5)
 replace HB:=hZq (below2Z HB.out b5)
 clear b5
 have b6:=bl_newZ w5 (.cells #[.int .i64 0,.slice none 0 0,.bool false,.int .i64 2,.int .i64 10,.bool true,.int .i64 10] 33)
 have L4:=newQ w5 (.cells #[.int .i64 0,.slice none 0 0,.bool false,.int .i64 2,.int .i64 10,.bool true,.int .i64 10] 33)
 have hL4:w.heap.size≤w5.heap.size:=HB.out.size
 replace CB:=hZq (upQ CB.out b6)
 replace T:=hZq (Tab.later T.out b6)
 replace HB:=hZq (below2Z HB.out b6)
 clear b6
 replace L4:=hZq L4
 go_upto_region 5 with fail
 generalize w5.alloc (.cells #[.int .i64 0,.slice none 0 0,.bool false,.int .i64 2,.int .i64 10,.bool true,.int .i64 10] 33)=w7 at CB L4 T HB ⊢
 go_wp2_with fail
 refine (lnew_eq 0 0 0 0 10 lnk_q2 _).mono ?_
 rintro e w8 ⟨rfl,b8⟩
 replace CB:=hZq (upQ CB.out b8)
 replace L4:=hZq (upQ L4.out b8)
 replace T:=hZq (Tab.later T.out b8)
 replace HB:=hZq (below2Z HB.out b8)
 clear b8
 have b9:=bl_newZ w8 (.cells #[.int .i64 0,.slice none 0 0,.bool false,.int .i64 0,.int .i64 0,.bool false,.int .i64 0] 33)
 have L6:=newQ w8 (.cells #[.int .i64 0,.slice none 0 0,.bool false,.int .i64 0,.int .i64 0,.bool false,.int .i64 0] 33)
 have hL6:w.heap.size≤w8.heap.size:=HB.out.size
 replace CB:=hZq (upQ CB.out b9)
 replace L4:=hZq (upQ L4.out b9)
 replace T:=hZq (Tab.later T.out b9)
 replace HB:=hZq (below2Z HB.out b9)
 clear b9
 replace L6:=hZq L6
 go_upto_region 6 with fail
 generalize w8.alloc (.cells #[.int .i64 0,.slice none 0 0,.bool false,.int .i64 0,.int .i64 0,.bool false,.int .i64 0] 33)=w10 at CB L4 L6 T HB ⊢
 clear L6
 have CBo:=blk4 CB.out
 have L4o:=blk7 L4.out
 go_wp2_with fail
 clear CBo L4o
 refine (lemit_eq (chgs_nil _) T.out shortC_nilL (by decide) lnk_s1 2 2 1 5 0 2 10 10 10 false true lnk_q3).mono ?_
 rintro e w11 ⟨uM,fvM,psM,rfl,hM,kM,mM,b11⟩
 replace CB:=hZq (upQ CB.out b11)
 replace L4:=hZq (upQ L4.out b11)
 replace T:=hZq (Tab.later T.out b11)
 replace HB:=hZq (below2Z HB.out b11)
 obtain⟨uMa,uMc,rfl⟩:=chgs_shape hM (n:=0) rfl
 obtain⟨gM,fMc,pMa,pMc,rfl,hFM,-⟩:=kf_one kM mM
 have QM:=hZq hM
 have FM:=hZq hFM
 clear hM kM mM hFM
 clear b11
 have b12:=bl_newZ w11 (.cells #[.int .i64 1,.slice uMa 0 uMc,.bool false,.int .i64 1,.int .i64 10,.bool false,.int .i64 10] 33)
 have L8:=newQ w11 (.cells #[.int .i64 1,.slice uMa 0 uMc,.bool false,.int .i64 1,.int .i64 10,.bool false,.int .i64 10] 33)
 have hL8:w.heap.size≤w11.heap.size:=HB.out.size
 replace CB:=hZq (upQ CB.out b12)
 replace L4:=hZq (upQ L4.out b12)
 replace T:=hZq (Tab.later T.out b12)
 replace QM:=hZq (Chgs.later QM.out b12)
 replace FM:=hZq (CellsAt.later FM.out b12)
 replace HB:=hZq (below2Z HB.out b12)
 clear b12
 replace L8:=hZq L8
 go_upto_region 7 with fail
 generalize w11.alloc (.cells #[.int .i64 1,.slice uMa 0 uMc,.bool false,.int .i64 1,.int .i64 10,.bool false,.int .i64 10] 33)=w13 at CB L4 L8 T QM FM HB ⊢
 clear T
 go_cut [10] from 40 to 46 (fun p wx => ∃ B ua uc,p=.pointer (some ⟨B,0,none⟩)∧Hid (wx.heap[B]?=some (.cells #[.int .i64 1,.slice ua 2 uc,.bool false,.int .i64 1,.int .i64 10,.bool false,.int .i64 10] 33 (0,0)))∧Hid (Chgs wx (.slice ua 2 uc) [⟨[97],false,⟨0,0,0,[]⟩⟩,⟨[98],false,⟨0,0,0,[]⟩⟩])∧Hid (Below w13.heap.size w13 wx))
 case first =>
  obtain⟨BS,hBS⟩ : ∃ BS:List (Nat × List Value),BS=[(w.heap.size,[.int .i64 2,.int .i64 2,.int .i64 1,.int .i64 5]),(w11.heap.size,[.int .i64 1,.slice uMa 0 uMc,.bool false,.int .i64 1,.int .i64 10,.bool false,.int .i64 10])]:=⟨_,rfl⟩
  have D0:=hZq (show heldB w13 BS from by rw [hBS]; exact heldB_cons (cellsAt_block CB.out) (heldB_cons (cellsAt_block L8.out) (heldB_nil _)))
  have hL:=heldB_at (b:=w.heap.size) (vs:=[.int .i64 2,.int .i64 2,.int .i64 1,.int .i64 5]) (bs:=BS) (by rw [hBS]; simp)
  have hq0:=hL 0 _ rfl
  have hq1:=hL 1 _ rfl
  have hq2:=hL 2 _ rfl
  have hq3:=hL 3 _ rfl
  clear hL
  have hL:=heldB_at (b:=w11.heap.size) (vs:=[.int .i64 1,.slice uMa 0 uMc,.bool false,.int .i64 1,.int .i64 10,.bool false,.int .i64 10]) (bs:=BS) (by rw [hBS]; simp)
  have hq4:=hL 0 _ rfl
  have hq5:=hL 1 _ rfl
  have hq6:=hL 2 _ rfl
  have hq7:=hL 3 _ rfl
  have hq8:=hL 4 _ rfl
  have hq9:=hL 5 _ rfl
  have hq10:=hL 6 _ rfl
  clear hL
  clear hBS
  have K0:Hid (Below w13.heap.size w13 w13.drew):=hZq (Below.refl _ _).drew
  refine wp_region_held_drew (S:=(fun X => heldB X BS)) (by kernel_rfl) ?_ (fun hHeld => ?_)
  ·exact heldB_up K0.out D0.out
  generalize w13.drew=z0 at K0 hHeld ⊢
  refine tkZ 0 ?_
  refine tkZ 1 ?_
  refine tkZ 2 ?_
  refine tkZ 3 ?_
  refine tkZ 5 ?_
  refine wpAnyH_ready (rs:=[4,7]) (by as_aux_lemma => kernel_rfl) (by simp) ?_
  refine AllReadyH.cons rfl (fun Kx hK => ?_) (AllReadyH.cons rfl (fun Kx hK => ?_) (AllReadyH.nil))
  ·go_simp
   refine (lpush_eq (QM.out.later K0.out) (by decide) false false 2 2 1 5 1 1 10 10 0 0 0 false [97] [] lnk_q4).mono ?_
   rintro e z1 ⟨un1,rfl,hN1,bz1⟩
   have K1:=hZq (below2Z K0.out bz1)
   have D1:=hZq (heldB_up K1.out D0.out)
   obtain⟨n1a,n1c,rfl⟩:=chgs_shape hN1 (n:=1) rfl
   have N1:=hZq hN1
   clear hN1
   clear bz1
   go_wp2_with fail
   refine hK.out _ _ ?_ (fun hHeld2 => ?_)
   ·exact D1.out
   clear hK Kx hHeld
   have hHeld:=hHeld2
   clear hHeld2
   try simp only [Act.put,List.setIfInBounds_toArray,List.set_cons_zero,List.set_cons_succ]
   refine wpAnyH_ready (rs:=[6,7]) (by as_aux_lemma => kernel_rfl) (by simp) ?_
   refine AllReadyH.cons rfl (fun Kx hK => ?_) (AllReadyH.cons rfl (fun Kx hK => ?_) (AllReadyH.nil))
   ·go_simp
    refine (lpush_eq N1.out (by decide) false false 2 2 1 5 1 1 10 10 0 0 0 false [98] [] lnk_q5).mono ?_
    rintro e z2 ⟨un2,rfl,hN2,bz2⟩
    have K2:=hZq (below2Z K1.out bz2)
    have D2:=hZq (heldB_up K2.out D0.out)
    replace N1:=hZq (Chgs.later (N1.out) bz2)
    obtain⟨ua,uc,rfl⟩:=chgs_shape hN2 (n:=2) rfl
    have N2:=hZq hN2
    clear hN2
    clear bz2
    go_wp2_with fail
    refine hK.out _ _ ?_ (fun hHeld2 => ?_)
    ·exact D2.out
    clear hK Kx hHeld
    have hHeld:=hHeld2
    clear hHeld2
    try simp only [Act.put,List.setIfInBounds_toArray,List.set_cons_zero,List.set_cons_succ]
    refine wpAnyH_ready (rs:=[7]) (by as_aux_lemma => kernel_rfl) (by simp) ?_
    refine AllReadyH.cons rfl (fun Kx hK => ?_) AllReadyH.nil
    go_simp
    refine hK.out _ _ ?_ (fun hHeld2 => ?_)
    ·exact heldB_up (below2Z K2.out (bl_newZ _ _)) D0.out
    clear hK Kx hHeld
    have hHeld:=hHeld2
    clear hHeld2
    try simp only [Act.put,List.setIfInBounds_toArray,List.set_cons_zero,List.set_cons_succ]
    have bz3:=bl_newZ z2 (.cells #[.int .i64 0,.slice none 0 0,.bool false,.int .i64 0,.int .i64 0,.bool false,.int .i64 0] 33)
    have K3:=hZq (below2Z K2.out bz3)
    have D3:=hZq (heldB_up K3.out D0.out)
    have nz3:=hZq ((MapKept.heap_alloc z2 (.cells #[.int .i64 0,.slice none 0 0,.bool false,.int .i64 0,.int .i64 0,.bool false,.int .i64 0] 33)).1)
    have hB3:w13.heap.size≤z2.heap.size:=(K2.out).size
    replace N2:=hZq (Chgs.later (N2.out) bz3)
    clear bz3
    generalize z2.alloc (.cells #[.int .i64 0,.slice none 0 0,.bool false,.int .i64 0,.int .i64 0,.bool false,.int .i64 0] 33)=z3 at K3 D3 nz3 N2 hHeld ⊢
    generalize z2.heap.size=B3 at nz3 hB3  ⊢
    obtain⟨⟨r0,r1,r2,r3,r4,r5,r6⟩,⟨g0,g1,g2,g3,g4,g5,g6⟩⟩:=blk7 nz3.out
    refine wpAnyH_ready (rs:=[8]) (by as_aux_lemma => kernel_rfl) (by simp) ?_
    refine AllReadyH.cons rfl (fun Kx hK => ?_) AllReadyH.nil
    go_simp
    clear r0 r1 r2 r3 r4 r5 r6 g0 g1 g2 g3 g4 g5 g6
    have YB:=hZq (stN7_heap nz3.out (.int .i64 1) (.slice ua 2 uc) (.bool false) (.int .i64 1) (.int .i64 10) (.bool false) (.int .i64 10))
    have KE:=hZq (stN7_below (K3.out) hB3 (.int .i64 1) (.slice ua 2 uc) (.bool false) (.int .i64 1) (.int .i64 10) (.bool false) (.int .i64 10))
    have UZ:=hZq (chgs_keep N2.out nz3.out (noLink 0 0 0 0 none 0 0 false false) (fun k hk => stN7_far z3 B3 (.int .i64 1) (.slice ua 2 uc) (.bool false) (.int .i64 1) (.int .i64 10) (.bool false) (.int .i64 10) hk) (by rw [stN7_size]; exact Nat.le_refl _))
    refine hK.out _ _ ?_ (fun hHeld2 => ?_)
    ·exact heldB_up KE.out D0.out
    clear hK Kx hHeld
    have hHeld:=hHeld2
    clear hHeld2
    refine wpAnyH_done (by kernel_rfl) ?_ _
    go_wp2_with fail
    go_meet
    exact⟨B3,ua,uc,rfl,YB,UZ,KE⟩
   ·go_simp
    refine hK.out _ _ ?_ (fun hHeld2 => ?_)
    ·exact heldB_up (below2Z K1.out (bl_newZ _ _)) D0.out
    clear hK Kx hHeld
    have hHeld:=hHeld2
    clear hHeld2
    try simp only [Act.put,List.setIfInBounds_toArray,List.set_cons_zero,List.set_cons_succ]
    have bz5:=bl_newZ z1 (.cells #[.int .i64 0,.slice none 0 0,.bool false,.int .i64 0,.int .i64 0,.bool false,.int .i64 0] 33)
    have K5:=hZq (below2Z K1.out bz5)
    have D5:=hZq (heldB_up K5.out D0.out)
    have nz5:=hZq ((MapKept.heap_alloc z1 (.cells #[.int .i64 0,.slice none 0 0,.bool false,.int .i64 0,.int .i64 0,.bool false,.int .i64 0] 33)).1)
    have hB5:w13.heap.size≤z1.heap.size:=(K1.out).size
    replace N1:=hZq (Chgs.later (N1.out) bz5)
    clear bz5
    generalize z1.alloc (.cells #[.int .i64 0,.slice none 0 0,.bool false,.int .i64 0,.int .i64 0,.bool false,.int .i64 0] 33)=z5 at K5 D5 nz5 N1 hHeld ⊢
    generalize z1.heap.size=B5 at nz5 hB5  ⊢
    refine wpAnyH_ready (rs:=[6]) (by as_aux_lemma => kernel_rfl) (by simp) ?_
    refine AllReadyH.cons rfl (fun Kx hK => ?_) AllReadyH.nil
    go_simp
    refine (lpush_eq N1.out (by decide) false false 2 2 1 5 1 1 10 10 0 0 0 false [98] [] lnk_q5).mono ?_
    rintro e z6 ⟨un2,rfl,hN2,bz6⟩
    have K6:=hZq (below2Z K5.out bz6)
    have D6:=hZq (heldB_up K6.out D0.out)
    replace N1:=hZq (Chgs.later (N1.out) bz6)
    replace nz5:=hZq (((bz6).block _ (Array.getElem?_eq_some_iff.1 (nz5.out)).1).trans (nz5.out))
    obtain⟨ua,uc,rfl⟩:=chgs_shape hN2 (n:=2) rfl
    have N2:=hZq hN2
    clear hN2
    clear bz6
    go_wp2_with fail
    refine hK.out _ _ ?_ (fun hHeld2 => ?_)
    ·exact D6.out
    clear hK Kx hHeld
    have hHeld:=hHeld2
    clear hHeld2
    try simp only [Act.put,List.setIfInBounds_toArray,List.set_cons_zero,List.set_cons_succ]
    obtain⟨⟨r0,r1,r2,r3,r4,r5,r6⟩,⟨g0,g1,g2,g3,g4,g5,g6⟩⟩:=blk7 nz5.out
    refine wpAnyH_ready (rs:=[8]) (by as_aux_lemma => kernel_rfl) (by simp) ?_
    refine AllReadyH.cons rfl (fun Kx hK => ?_) AllReadyH.nil
    go_simp
    clear r0 r1 r2 r3 r4 r5 r6 g0 g1 g2 g3 g4 g5 g6
    have YB:=hZq (stN7_heap nz5.out (.int .i64 1) (.slice ua 2 uc) (.bool false) (.int .i64 1) (.int .i64 10) (.bool false) (.int .i64 10))
    have KE:=hZq (stN7_below (K6.out) hB5 (.int .i64 1) (.slice ua 2 uc) (.bool false) (.int .i64 1) (.int .i64 10) (.bool false) (.int .i64 10))
    have UZ:=hZq (chgs_keep N2.out nz5.out (noLink 0 0 0 0 none 0 0 false false) (fun k hk => stN7_far z6 B5 (.int .i64 1) (.slice ua 2 uc) (.bool false) (.int .i64 1) (.int .i64 10) (.bool false) (.int .i64 10) hk) (by rw [stN7_size]; exact Nat.le_refl _))
    refine hK.out _ _ ?_ (fun hHeld2 => ?_)
    ·exact heldB_up KE.out D0.out
    clear hK Kx hHeld
    have hHeld:=hHeld2
    clear hHeld2
    refine wpAnyH_done (by kernel_rfl) ?_ _
    go_wp2_with fail
    go_meet
    exact⟨B5,ua,uc,rfl,YB,UZ,KE⟩
  ·go_simp
   refine hK.out _ _ ?_ (fun hHeld2 => ?_)
   ·exact heldB_up (below2Z K0.out (bl_newZ _ _)) D0.out
   clear hK Kx hHeld
   have hHeld:=hHeld2
   clear hHeld2
   try simp only [Act.put,List.setIfInBounds_toArray,List.set_cons_zero,List.set_cons_succ]
   have bz8:=bl_newZ z0 (.cells #[.int .i64 0,.slice none 0 0,.bool false,.int .i64 0,.int .i64 0,.bool false,.int .i64 0] 33)
   have K8:=hZq (below2Z K0.out bz8)
   have D8:=hZq (heldB_up K8.out D0.out)
   have nz8:=hZq ((MapKept.heap_alloc z0 (.cells #[.int .i64 0,.slice none 0 0,.bool false,.int .i64 0,.int .i64 0,.bool false,.int .i64 0] 33)).1)
   have hB8:w13.heap.size≤z0.heap.size:=(K0.out).size
   clear bz8
   generalize z0.alloc (.cells #[.int .i64 0,.slice none 0 0,.bool false,.int .i64 0,.int .i64 0,.bool false,.int .i64 0] 33)=z8 at K8 D8 nz8 hHeld ⊢
   generalize z0.heap.size=B8 at nz8 hB8  ⊢
   refine wpAnyH_ready (rs:=[4]) (by as_aux_lemma => kernel_rfl) (by simp) ?_
   refine AllReadyH.cons rfl (fun Kx hK => ?_) AllReadyH.nil
   go_simp
   refine (lpush_eq (QM.out.later K8.out) (by decide) false false 2 2 1 5 1 1 10 10 0 0 0 false [97] [] lnk_q4).mono ?_
   rintro e z9 ⟨un1,rfl,hN1,bz9⟩
   have K9:=hZq (below2Z K8.out bz9)
   have D9:=hZq (heldB_up K9.out D0.out)
   replace nz8:=hZq (((bz9).block _ (Array.getElem?_eq_some_iff.1 (nz8.out)).1).trans (nz8.out))
   obtain⟨n1a,n1c,rfl⟩:=chgs_shape hN1 (n:=1) rfl
   have N1:=hZq hN1
   clear hN1
   clear bz9
   go_wp2_with fail
   refine hK.out _ _ ?_ (fun hHeld2 => ?_)
   ·exact D9.out
   clear hK Kx hHeld
   have hHeld:=hHeld2
   clear hHeld2
   try simp only [Act.put,List.setIfInBounds_toArray,List.set_cons_zero,List.set_cons_succ]
   refine wpAnyH_ready (rs:=[6]) (by as_aux_lemma => kernel_rfl) (by simp) ?_
   refine AllReadyH.cons rfl (fun Kx hK => ?_) AllReadyH.nil
   go_simp
   refine (lpush_eq N1.out (by decide) false false 2 2 1 5 1 1 10 10 0 0 0 false [98] [] lnk_q5).mono ?_
   rintro e z10 ⟨un2,rfl,hN2,bz10⟩
   have K10:=hZq (below2Z K9.out bz10)
   have D10:=hZq (heldB_up K10.out D0.out)
   replace nz8:=hZq (((bz10).block _ (Array.getElem?_eq_some_iff.1 (nz8.out)).1).trans (nz8.out))
   replace N1:=hZq (Chgs.later (N1.out) bz10)
   obtain⟨ua,uc,rfl⟩:=chgs_shape hN2 (n:=2) rfl
   have N2:=hZq hN2
   clear hN2
   clear bz10
   go_wp2_with fail
   refine hK.out _ _ ?_ (fun hHeld2 => ?_)
   ·exact D10.out
   clear hK Kx hHeld
   have hHeld:=hHeld2
   clear hHeld2
   try simp only [Act.put,List.setIfInBounds_toArray,List.set_cons_zero,List.set_cons_succ]
   obtain⟨⟨r0,r1,r2,r3,r4,r5,r6⟩,⟨g0,g1,g2,g3,g4,g5,g6⟩⟩:=blk7 nz8.out
   refine wpAnyH_ready (rs:=[8]) (by as_aux_lemma => kernel_rfl) (by simp) ?_
   refine AllReadyH.cons rfl (fun Kx hK => ?_) AllReadyH.nil
   go_simp
   clear r0 r1 r2 r3 r4 r5 r6 g0 g1 g2 g3 g4 g5 g6
   have YB:=hZq (stN7_heap nz8.out (.int .i64 1) (.slice ua 2 uc) (.bool false) (.int .i64 1) (.int .i64 10) (.bool false) (.int .i64 10))
   have KE:=hZq (stN7_below (K10.out) hB8 (.int .i64 1) (.slice ua 2 uc) (.bool false) (.int .i64 1) (.int .i64 10) (.bool false) (.int .i64 10))
   have UZ:=hZq (chgs_keep N2.out nz8.out (noLink 0 0 0 0 none 0 0 false false) (fun k hk => stN7_far z10 B8 (.int .i64 1) (.slice ua 2 uc) (.bool false) (.int .i64 1) (.int .i64 10) (.bool false) (.int .i64 10) hk) (by rw [stN7_size]; exact Nat.le_refl _))
   refine hK.out _ _ ?_ (fun hHeld2 => ?_)
   ·exact heldB_up KE.out D0.out
   clear hK Kx hHeld
   have hHeld:=hHeld2
   clear hHeld2
   refine wpAnyH_done (by kernel_rfl) ?_ _
   go_wp2_with fail
   go_meet
   exact⟨B8,ua,uc,rfl,YB,UZ,KE⟩
 case rest =>
  obtain⟨BL,nna,nnc,rfl,LN,QN,KB⟩:=hcut
  obtain⟨w14,hw14⟩ : ∃ X,X=wc:=⟨_,rfl⟩
  subst hw14
  replace CB:=hZq (upQ CB.out KB.out)
  replace L4:=hZq (upQ L4.out KB.out)
  replace L8:=hZq (upQ L8.out KB.out)
  replace QM:=hZq (Chgs.later QM.out KB.out)
  replace FM:=hZq (CellsAt.later FM.out KB.out)
  replace HB:=hZq (below2Z HB.out KB.out)
  clear KB
  have L10:=LN
  clear LN
  have CBo:=blk4 CB.out
  have L10o:=blk7 L10.out
  go_wp2_with fail
  clear CBo L10o
  refine (lemit_eq QN.out (tab_nilL _) lnk_s2 (by decide) short_nilL 2 2 1 5 1 1 10 10 10 false false lnk_q6).mono ?_
  rintro e w15 ⟨uO,fvO,psO,rfl,hO,kO,mO,b15⟩
  replace CB:=hZq (upQ CB.out b15)
  replace L4:=hZq (upQ L4.out b15)
  replace L8:=hZq (upQ L8.out b15)
  replace L10:=hZq (upQ L10.out b15)
  replace QM:=hZq (Chgs.later QM.out b15)
  replace FM:=hZq (CellsAt.later FM.out b15)
  replace QN:=hZq (Chgs.later QN.out b15)
  replace HB:=hZq (below2Z HB.out b15)
  obtain⟨uOa,uOc,rfl⟩:=chgs_shape hO (n:=1) rfl
  obtain⟨gO,fOc,pOa,pOc,rfl,hFO,-⟩:=kf_one kO mO
  have QO:=hZq hO
  have FO:=hZq hFO
  clear hO kO mO hFO
  clear b15
  have b16:=bl_newZ w15 (.cells #[.int .i64 2,.slice uOa 1 uOc,.bool false,.int .i64 0,.int .i64 10,.bool false,.int .i64 10] 33)
  have L11:=newQ w15 (.cells #[.int .i64 2,.slice uOa 1 uOc,.bool false,.int .i64 0,.int .i64 10,.bool false,.int .i64 10] 33)
  have hL11:w.heap.size≤w15.heap.size:=HB.out.size
  replace CB:=hZq (upQ CB.out b16)
  replace L4:=hZq (upQ L4.out b16)
  replace L8:=hZq (upQ L8.out b16)
  replace L10:=hZq (upQ L10.out b16)
  replace QM:=hZq (Chgs.later QM.out b16)
  replace FM:=hZq (CellsAt.later FM.out b16)
  replace QN:=hZq (Chgs.later QN.out b16)
  replace QO:=hZq (Chgs.later QO.out b16)
  replace FO:=hZq (CellsAt.later FO.out b16)
  replace HB:=hZq (below2Z HB.out b16)
  clear b16
  replace L11:=hZq L11
  go_upto_region 9 with fail
  generalize w15.alloc (.cells #[.int .i64 2,.slice uOa 1 uOc,.bool false,.int .i64 0,.int .i64 10,.bool false,.int .i64 10] 33)=w17 at CB L4 L8 L10 L11 QM FM QN QO FO HB ⊢
  have CBo:=blk4 CB.out
  have L11o:=blk7 L11.out
  go_wp2_with fail
  clear CBo L11o
  refine (lemit_eq QO.out (tab_nilL _) lnk_s3 (by decide) short_nilL 2 2 1 5 2 0 10 10 10 false false lnk_q7).mono ?_
  rintro e w18 ⟨uP,fvP,psP,rfl,hP,kP,mP,b18⟩
  replace CB:=hZq (upQ CB.out b18)
  replace L4:=hZq (upQ L4.out b18)
  replace L8:=hZq (upQ L8.out b18)
  replace L10:=hZq (upQ L10.out b18)
  replace L11:=hZq (upQ L11.out b18)
  replace QM:=hZq (Chgs.later QM.out b18)
  replace FM:=hZq (CellsAt.later FM.out b18)
  replace QN:=hZq (Chgs.later QN.out b18)
  replace QO:=hZq (Chgs.later QO.out b18)
  replace FO:=hZq (CellsAt.later FO.out b18)
  replace HB:=hZq (below2Z HB.out b18)
  obtain⟨uPa,uPc,rfl⟩:=chgs_shape hP (n:=1) rfl
  obtain⟨fPa,fPc,rfl⟩:=kf_zero kP mP
  have QP:=hZq hP
  clear hP kP mP
  clear b18
  have b19:=bl_newZ w18 (.cells #[.int .i64 2,.slice uPa 1 uPc,.bool false,.int .i64 0,.int .i64 10,.bool false,.int .i64 10] 33)
  have L13:=newQ w18 (.cells #[.int .i64 2,.slice uPa 1 uPc,.bool false,.int .i64 0,.int .i64 10,.bool false,.int .i64 10] 33)
  have hL13:w.heap.size≤w18.heap.size:=HB.out.size
  replace CB:=hZq (upQ CB.out b19)
  replace L4:=hZq (upQ L4.out b19)
  replace L8:=hZq (upQ L8.out b19)
  replace L10:=hZq (upQ L10.out b19)
  replace L11:=hZq (upQ L11.out b19)
  replace QM:=hZq (Chgs.later QM.out b19)
  replace FM:=hZq (CellsAt.later FM.out b19)
  replace QN:=hZq (Chgs.later QN.out b19)
  replace QO:=hZq (Chgs.later QO.out b19)
  replace FO:=hZq (CellsAt.later FO.out b19)
  replace QP:=hZq (Chgs.later QP.out b19)
  replace HB:=hZq (below2Z HB.out b19)
  clear b19
  replace L13:=hZq L13
  go_upto_region 10 with fail
  generalize w18.alloc (.cells #[.int .i64 2,.slice uPa 1 uPc,.bool false,.int .i64 0,.int .i64 10,.bool false,.int .i64 10] 33)=w20 at CB L4 L8 L10 L11 L13 QM FM QN QO FO QP HB ⊢
  have CBo:=blk4 CB.out
  have L11o:=blk7 L11.out
  go_wp2_with fail
  clear CBo L11o
  refine (lemit_eq QO.out (tab_nilL _) lnk_s3 (by decide) short_nilL 2 2 1 5 2 0 10 10 16 false false lnk_q8).mono ?_
  rintro e w21 ⟨uI,fvI,psI,rfl,hI,kI,mI,b21⟩
  replace CB:=hZq (upQ CB.out b21)
  replace L4:=hZq (upQ L4.out b21)
  replace L8:=hZq (upQ L8.out b21)
  replace L10:=hZq (upQ L10.out b21)
  replace L11:=hZq (upQ L11.out b21)
  replace L13:=hZq (upQ L13.out b21)
  replace QM:=hZq (Chgs.later QM.out b21)
  replace FM:=hZq (CellsAt.later FM.out b21)
  replace QN:=hZq (Chgs.later QN.out b21)
  replace QO:=hZq (Chgs.later QO.out b21)
  replace FO:=hZq (CellsAt.later FO.out b21)
  replace QP:=hZq (Chgs.later QP.out b21)
  replace HB:=hZq (below2Z HB.out b21)
  obtain⟨uIa,uIc,rfl⟩:=chgs_shape hI (n:=0) rfl
  obtain⟨gI,fIc,pIa,pIc,rIa,rIc,rfl,hFI,hGI⟩:=kf_two kI mI
  have QI:=hZq hI
  have FI:=hZq hFI
  have GI:=hZq hGI
  clear hI kI mI hFI hGI
  clear b21
  have b22:=bl_newZ w21 (.cells #[.int .i64 4,.slice uIa 0 uIc,.bool false,.int .i64 0,.int .i64 16,.bool false,.int .i64 16] 33)
  have L15:=newQ w21 (.cells #[.int .i64 4,.slice uIa 0 uIc,.bool false,.int .i64 0,.int .i64 16,.bool false,.int .i64 16] 33)
  have hL15:w.heap.size≤w21.heap.size:=HB.out.size
  replace CB:=hZq (upQ CB.out b22)
  replace L4:=hZq (upQ L4.out b22)
  replace L8:=hZq (upQ L8.out b22)
  replace L10:=hZq (upQ L10.out b22)
  replace L11:=hZq (upQ L11.out b22)
  replace L13:=hZq (upQ L13.out b22)
  replace QM:=hZq (Chgs.later QM.out b22)
  replace FM:=hZq (CellsAt.later FM.out b22)
  replace QN:=hZq (Chgs.later QN.out b22)
  replace QO:=hZq (Chgs.later QO.out b22)
  replace FO:=hZq (CellsAt.later FO.out b22)
  replace QP:=hZq (Chgs.later QP.out b22)
  replace QI:=hZq (Chgs.later QI.out b22)
  replace FI:=hZq (CellsAt.later FI.out b22)
  replace GI:=hZq (CellsAt.later GI.out b22)
  replace HB:=hZq (below2Z HB.out b22)
  clear b22
  replace L15:=hZq L15
  go_upto_region 11 with fail
  generalize w21.alloc (.cells #[.int .i64 4,.slice uIa 0 uIc,.bool false,.int .i64 0,.int .i64 16,.bool false,.int .i64 16] 33)=w23 at CB L4 L8 L10 L11 L13 L15 QM FM QN QO FO QP QI FI GI HB ⊢
  have CBo:=blk4 CB.out
  have L10o:=blk7 L10.out
  go_wp2_with fail
  clear CBo L10o
  refine (lpush_eq QN.out (by decide) false false 2 2 1 5 1 1 10 10 0 0 0 false [99] [] lnk_q9).mono ?_
  rintro e w24 ⟨uR,rfl,hR,b24⟩
  replace CB:=hZq (upQ CB.out b24)
  replace L4:=hZq (upQ L4.out b24)
  replace L8:=hZq (upQ L8.out b24)
  replace L10:=hZq (upQ L10.out b24)
  replace L11:=hZq (upQ L11.out b24)
  replace L13:=hZq (upQ L13.out b24)
  replace L15:=hZq (upQ L15.out b24)
  replace QM:=hZq (Chgs.later QM.out b24)
  replace FM:=hZq (CellsAt.later FM.out b24)
  replace QN:=hZq (Chgs.later QN.out b24)
  replace QO:=hZq (Chgs.later QO.out b24)
  replace FO:=hZq (CellsAt.later FO.out b24)
  replace QP:=hZq (Chgs.later QP.out b24)
  replace QI:=hZq (Chgs.later QI.out b24)
  replace FI:=hZq (CellsAt.later FI.out b24)
  replace GI:=hZq (CellsAt.later GI.out b24)
  replace HB:=hZq (below2Z HB.out b24)
  obtain⟨uRa,uRc,rfl⟩:=chgs_shape hR (n:=0) rfl
  clear hR
  clear b24
  have b25:=bl_newZ w24 (.cells #[.int .i64 1,.slice uRa 0 uRc,.bool false,.int .i64 1,.int .i64 10,.bool true,.int .i64 10] 33)
  have L17:=newQ w24 (.cells #[.int .i64 1,.slice uRa 0 uRc,.bool false,.int .i64 1,.int .i64 10,.bool true,.int .i64 10] 33)
  have hL17:w.heap.size≤w24.heap.size:=HB.out.size
  replace CB:=hZq (upQ CB.out b25)
  replace L4:=hZq (upQ L4.out b25)
  replace L8:=hZq (upQ L8.out b25)
  replace L10:=hZq (upQ L10.out b25)
  replace L11:=hZq (upQ L11.out b25)
  replace L13:=hZq (upQ L13.out b25)
  replace L15:=hZq (upQ L15.out b25)
  replace QM:=hZq (Chgs.later QM.out b25)
  replace FM:=hZq (CellsAt.later FM.out b25)
  replace QN:=hZq (Chgs.later QN.out b25)
  replace QO:=hZq (Chgs.later QO.out b25)
  replace FO:=hZq (CellsAt.later FO.out b25)
  replace QP:=hZq (Chgs.later QP.out b25)
  replace QI:=hZq (Chgs.later QI.out b25)
  replace FI:=hZq (CellsAt.later FI.out b25)
  replace GI:=hZq (CellsAt.later GI.out b25)
  replace HB:=hZq (below2Z HB.out b25)
  clear b25
  replace L17:=hZq L17
  go_upto_region 12 with fail
  generalize w24.alloc (.cells #[.int .i64 1,.slice uRa 0 uRc,.bool false,.int .i64 1,.int .i64 10,.bool true,.int .i64 10] 33)=w26 at CB L4 L8 L10 L11 L13 L15 L17 QM FM QN QO FO QP QI FI GI HB ⊢
  clear L10
  clear QN QM
  have CBo:=blk4 CB.out
  have L4o:=blk7 L4.out
  have L8o:=blk7 L8.out
  have L11o:=blk7 L11.out
  have L13o:=blk7 L13.out
  have L15o:=blk7 L15.out
  have L17o:=blk7 L17.out
  have fc0:w26.cell? ⟨gM,0,none⟩=some (.int .i64 3):=FM.out 0 _ rfl
  have fc1:w26.cell? ⟨gM,9,none⟩=some (.slice pMa 1 pMc):=FM.out 9 _ rfl
  have fc2:w26.cell? ⟨gO,0,none⟩=some (.int .i64 1):=FO.out 0 _ rfl
  have fc3:w26.cell? ⟨gO,3,none⟩=some (.string ⟨#[97]⟩):=FO.out 3 _ rfl
  have fc4:w26.cell? ⟨gO,1,none⟩=some (.int .i64 1):=FO.out 1 _ rfl
  have fc5:w26.cell? ⟨gI,3,none⟩=some (.string ⟨#[98]⟩):=FI.out 3 _ rfl
  have fc6:w26.cell? ⟨gI,10,none⟩=some (.int .i64 2):=GI.out 0 _ rfl
  have fc7:w26.cell? ⟨gI,11,none⟩=some (.int .i64 3):=GI.out 1 _ rfl
  go_wp2_with fail
  clear CBo L4o L8o L11o L13o L15o L17o fc0 fc1 fc2 fc3 fc4 fc5 fc6 fc7
  refine (rlsame_yes QO.out QP.out false false 2 0 10 10).mono ?_
  rintro e w27 ⟨rfl,b27⟩
  replace CB:=hZq (upQ CB.out b27)
  replace L4:=hZq (upQ L4.out b27)
  replace L8:=hZq (upQ L8.out b27)
  replace L11:=hZq (upQ L11.out b27)
  replace L13:=hZq (upQ L13.out b27)
  replace L15:=hZq (upQ L15.out b27)
  replace L17:=hZq (upQ L17.out b27)
  replace FM:=hZq (CellsAt.later FM.out b27)
  replace QO:=hZq (Chgs.later QO.out b27)
  replace FO:=hZq (CellsAt.later FO.out b27)
  replace QP:=hZq (Chgs.later QP.out b27)
  replace QI:=hZq (Chgs.later QI.out b27)
  replace FI:=hZq (CellsAt.later FI.out b27)
  replace GI:=hZq (CellsAt.later GI.out b27)
  replace HB:=hZq (below2Z HB.out b27)
  clear b27
  have CBo:=blk4 CB.out
  have L4o:=blk7 L4.out
  have L8o:=blk7 L8.out
  have L11o:=blk7 L11.out
  have L13o:=blk7 L13.out
  have L15o:=blk7 L15.out
  have L17o:=blk7 L17.out
  have fc0:w27.cell? ⟨gM,0,none⟩=some (.int .i64 3):=FM.out 0 _ rfl
  have fc1:w27.cell? ⟨gM,9,none⟩=some (.slice pMa 1 pMc):=FM.out 9 _ rfl
  have fc2:w27.cell? ⟨gO,0,none⟩=some (.int .i64 1):=FO.out 0 _ rfl
  have fc3:w27.cell? ⟨gO,3,none⟩=some (.string ⟨#[97]⟩):=FO.out 3 _ rfl
  have fc4:w27.cell? ⟨gO,1,none⟩=some (.int .i64 1):=FO.out 1 _ rfl
  have fc5:w27.cell? ⟨gI,3,none⟩=some (.string ⟨#[98]⟩):=FI.out 3 _ rfl
  have fc6:w27.cell? ⟨gI,10,none⟩=some (.int .i64 2):=GI.out 0 _ rfl
  have fc7:w27.cell? ⟨gI,11,none⟩=some (.int .i64 3):=GI.out 1 _ rfl
  go_wp2_with fail
  clear CBo L4o L8o L11o L13o L15o L17o fc0 fc1 fc2 fc3 fc4 fc5 fc6 fc7
  refine (lquiet_any QI.out false false 4 0 16 16 lnk_q10).mono ?_
  rintro e w28 ⟨rfl,b28⟩
  replace CB:=hZq (upQ CB.out b28)
  replace L4:=hZq (upQ L4.out b28)
  replace L8:=hZq (upQ L8.out b28)
  replace L11:=hZq (upQ L11.out b28)
  replace L13:=hZq (upQ L13.out b28)
  replace L15:=hZq (upQ L15.out b28)
  replace L17:=hZq (upQ L17.out b28)
  replace FM:=hZq (CellsAt.later FM.out b28)
  replace QO:=hZq (Chgs.later QO.out b28)
  replace FO:=hZq (CellsAt.later FO.out b28)
  replace QP:=hZq (Chgs.later QP.out b28)
  replace QI:=hZq (Chgs.later QI.out b28)
  replace FI:=hZq (CellsAt.later FI.out b28)
  replace GI:=hZq (CellsAt.later GI.out b28)
  replace HB:=hZq (below2Z HB.out b28)
  clear b28
  have CBo:=blk4 CB.out
  have L4o:=blk7 L4.out
  have L8o:=blk7 L8.out
  have L11o:=blk7 L11.out
  have L13o:=blk7 L13.out
  have L15o:=blk7 L15.out
  have L17o:=blk7 L17.out
  have fc0:w28.cell? ⟨gM,0,none⟩=some (.int .i64 3):=FM.out 0 _ rfl
  have fc1:w28.cell? ⟨gM,9,none⟩=some (.slice pMa 1 pMc):=FM.out 9 _ rfl
  have fc2:w28.cell? ⟨gO,0,none⟩=some (.int .i64 1):=FO.out 0 _ rfl
  have fc3:w28.cell? ⟨gO,3,none⟩=some (.string ⟨#[97]⟩):=FO.out 3 _ rfl
  have fc4:w28.cell? ⟨gO,1,none⟩=some (.int .i64 1):=FO.out 1 _ rfl
  have fc5:w28.cell? ⟨gI,3,none⟩=some (.string ⟨#[98]⟩):=FI.out 3 _ rfl
  have fc6:w28.cell? ⟨gI,10,none⟩=some (.int .i64 2):=GI.out 0 _ rfl
  have fc7:w28.cell? ⟨gI,11,none⟩=some (.int .i64 3):=GI.out 1 _ rfl
  go_wp2_with fail
  clear CBo L4o L8o L11o L13o L15o L17o fc0 fc1 fc2 fc3 fc4 fc5 fc6 fc7
  refine (lquiet_any QO.out false false 2 0 10 10 lnk_q11).mono ?_
  rintro e w29 ⟨rfl,b29⟩
  replace CB:=hZq (upQ CB.out b29)
  replace L4:=hZq (upQ L4.out b29)
  replace L8:=hZq (upQ L8.out b29)
  replace L11:=hZq (upQ L11.out b29)
  replace L13:=hZq (upQ L13.out b29)
  replace L15:=hZq (upQ L15.out b29)
  replace L17:=hZq (upQ L17.out b29)
  replace FM:=hZq (CellsAt.later FM.out b29)
  replace QO:=hZq (Chgs.later QO.out b29)
  replace FO:=hZq (CellsAt.later FO.out b29)
  replace QP:=hZq (Chgs.later QP.out b29)
  replace QI:=hZq (Chgs.later QI.out b29)
  replace FI:=hZq (CellsAt.later FI.out b29)
  replace GI:=hZq (CellsAt.later GI.out b29)
  replace HB:=hZq (below2Z HB.out b29)
  clear b29
  have CBo:=blk4 CB.out
  have L4o:=blk7 L4.out
  have L8o:=blk7 L8.out
  have L11o:=blk7 L11.out
  have L13o:=blk7 L13.out
  have L15o:=blk7 L15.out
  have L17o:=blk7 L17.out
  have fc0:w29.cell? ⟨gM,0,none⟩=some (.int .i64 3):=FM.out 0 _ rfl
  have fc1:w29.cell? ⟨gM,9,none⟩=some (.slice pMa 1 pMc):=FM.out 9 _ rfl
  have fc2:w29.cell? ⟨gO,0,none⟩=some (.int .i64 1):=FO.out 0 _ rfl
  have fc3:w29.cell? ⟨gO,3,none⟩=some (.string ⟨#[97]⟩):=FO.out 3 _ rfl
  have fc4:w29.cell? ⟨gO,1,none⟩=some (.int .i64 1):=FO.out 1 _ rfl
  have fc5:w29.cell? ⟨gI,3,none⟩=some (.string ⟨#[98]⟩):=FI.out 3 _ rfl
  have fc6:w29.cell? ⟨gI,10,none⟩=some (.int .i64 2):=GI.out 0 _ rfl
  have fc7:w29.cell? ⟨gI,11,none⟩=some (.int .i64 3):=GI.out 1 _ rfl
  go_wp2_with fail
  clear CBo L4o L8o L11o L13o L15o L17o fc0 fc1 fc2 fc3 fc4 fc5 fc6 fc7
  refine (lmay_any QI.out shortC_nilL (by decide) false false 4 0 16 16 2 2 1 5 lnk_q12).mono ?_
  rintro e w30 ⟨rfl,b30⟩
  replace CB:=hZq (upQ CB.out b30)
  replace L4:=hZq (upQ L4.out b30)
  replace L8:=hZq (upQ L8.out b30)
  replace L11:=hZq (upQ L11.out b30)
  replace L13:=hZq (upQ L13.out b30)
  replace L15:=hZq (upQ L15.out b30)
  replace L17:=hZq (upQ L17.out b30)
  replace FM:=hZq (CellsAt.later FM.out b30)
  replace QO:=hZq (Chgs.later QO.out b30)
  replace FO:=hZq (CellsAt.later FO.out b30)
  replace QP:=hZq (Chgs.later QP.out b30)
  replace QI:=hZq (Chgs.later QI.out b30)
  replace FI:=hZq (CellsAt.later FI.out b30)
  replace GI:=hZq (CellsAt.later GI.out b30)
  replace HB:=hZq (below2Z HB.out b30)
  clear b30
  have CBo:=blk4 CB.out
  have L4o:=blk7 L4.out
  have L8o:=blk7 L8.out
  have L11o:=blk7 L11.out
  have L13o:=blk7 L13.out
  have L15o:=blk7 L15.out
  have L17o:=blk7 L17.out
  have fc0:w30.cell? ⟨gM,0,none⟩=some (.int .i64 3):=FM.out 0 _ rfl
  have fc1:w30.cell? ⟨gM,9,none⟩=some (.slice pMa 1 pMc):=FM.out 9 _ rfl
  have fc2:w30.cell? ⟨gO,0,none⟩=some (.int .i64 1):=FO.out 0 _ rfl
  have fc3:w30.cell? ⟨gO,3,none⟩=some (.string ⟨#[97]⟩):=FO.out 3 _ rfl
  have fc4:w30.cell? ⟨gO,1,none⟩=some (.int .i64 1):=FO.out 1 _ rfl
  have fc5:w30.cell? ⟨gI,3,none⟩=some (.string ⟨#[98]⟩):=FI.out 3 _ rfl
  have fc6:w30.cell? ⟨gI,10,none⟩=some (.int .i64 2):=GI.out 0 _ rfl
  have fc7:w30.cell? ⟨gI,11,none⟩=some (.int .i64 3):=GI.out 1 _ rfl
  go_wp2_with fail
  clear CBo L4o L8o L11o L13o L15o L17o fc0 fc1 fc2 fc3 fc4 fc5 fc6 fc7
  refine (lmay_any (chgs_nil _) shortC_nilL (by decide) false false (-1) 0 0 0 2 2 1 5 lnk_q13).mono ?_
  rintro e w31 ⟨rfl,b31⟩
  replace CB:=hZq (upQ CB.out b31)
  replace L4:=hZq (upQ L4.out b31)
  replace L8:=hZq (upQ L8.out b31)
  replace L11:=hZq (upQ L11.out b31)
  replace L13:=hZq (upQ L13.out b31)
  replace L15:=hZq (upQ L15.out b31)
  replace L17:=hZq (upQ L17.out b31)
  replace FM:=hZq (CellsAt.later FM.out b31)
  replace QO:=hZq (Chgs.later QO.out b31)
  replace FO:=hZq (CellsAt.later FO.out b31)
  replace QP:=hZq (Chgs.later QP.out b31)
  replace QI:=hZq (Chgs.later QI.out b31)
  replace FI:=hZq (CellsAt.later FI.out b31)
  replace GI:=hZq (CellsAt.later GI.out b31)
  replace HB:=hZq (below2Z HB.out b31)
  clear b31
  go_wp2_with fail
  go_ret
  exact⟨rfl,HB.out⟩
end Go.Proofs.Ytfocooajnignbaa
