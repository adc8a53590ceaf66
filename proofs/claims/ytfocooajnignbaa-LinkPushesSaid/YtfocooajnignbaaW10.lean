/-
 TEXTS OF THE PROOF, one behind the other: LnkNext.
-/
import Derived.Test.YtfocooajnignbaaW05
import Derived.Test.YtfocooajnignbaaW09
import Derived.Laws.EntriesVeiled

set_option maxHeartbeats 12800000
set_option maxRecDepth 100000

namespace Go.Proofs.Ytfocooajnignbaa
open Go.RowKit

set_option linter.unusedSimpArgs false

theorem ldig_eqL {w:World} {v vt:Value} {l:List Chg} {view:List Row} (hv:Chgs w v l) (ht:Tab w vt view) (seq tok at' dg ca cb cd ce now:Int) (la sn:Bool) (hn0:0≤now) (hn1:now≤1099511627776) (hd0:0≤dg) (hd1:dg≤1099511627776) (hd:¬ now - dg < ce) (hsh:Short view) (hlv:view.length≤1000) {m:Nat} (hm:Hid (diSum view=m)) :
  Calls Try.prog 34 #[.agg #[.int .i64 ca,.int .i64 cb,.int .i64 cd,.int .i64 ce,vt,.int .i64 now],.agg #[.int .i64 seq,v,.bool la,.int .i64 tok,.int .i64 at',.bool sn,.int .i64 dg]] w fun e w' => e=.returned (.tuple #[.agg #[.int .i64 2,.int .i64 0,.bool false,.string ⟨#[]⟩,.int .i64 0,.int .i64 0,.int .i64 0,.string ⟨#[]⟩,.int .u64 m,.slice none 0 0],.agg #[.int .i64 seq,v,.bool la,.int .i64 tok,.int .i64 at',.bool sn,.int .i64 now],.bool true])∧Below w.heap.size w w':=by
 rw [← hm.out]
 exact ldig_yes hv ht seq tok at' dg ca cb cd ce now la sn hn0 hn1 hd0 hd1 hd hsh hlv

theorem lix0 (F0 F1 F2:Fn) (x0 x1 x2 y0 y1 y2:Array Value) (w:World):(Instr.index 76 (.agg #[.func F0 x0 y0,.func F1 x1 y1,.func F2 x2 y2]) (.int .i64 0)).run Try.prog w=.ok (.func F0 x0 y0) w:=by kernel_rfl
theorem lix1 (F0 F1 F2:Fn) (x0 x1 x2 y0 y1 y2:Array Value) (w:World):(Instr.index 76 (.agg #[.func F0 x0 y0,.func F1 x1 y1,.func F2 x2 y2]) (.int .i64 1)).run Try.prog w=.ok (.func F1 x1 y1) w:=by kernel_rfl
theorem lix2 (F0 F1 F2:Fn) (x0 x1 x2 y0 y1 y2:Array Value) (w:World):(Instr.index 76 (.agg #[.func F0 x0 y0,.func F1 x1 y1,.func F2 x2 y2]) (.int .i64 2)).run Try.prog w=.ok (.func F2 x2 y2) w:=by kernel_rfl

theorem lnext_s {w:World} {v vt:Value} {l:List Chg} {view:List Row} (hv:Chgs w v l) (ht:Tab w vt view) (seq tok at' dg ca cb cd ce now:Int) (la:Bool) (htl:view.length≤4294967) :
  Calls Try.prog 19 #[.agg #[.int .i64 ca,.int .i64 cb,.int .i64 cd,.int .i64 ce,vt,.int .i64 now],.agg #[.int .i64 seq,v,.bool la,.int .i64 tok,.int .i64 at',.bool true,.int .i64 dg]] w fun e w' => ∃ u,e=.returned (.tuple #[.agg #[.int .i64 3,.int .i64 0,.bool false,.string ⟨#[]⟩,.int .i64 0,.int .i64 0,.int .i64 0,.string ⟨#[]⟩,.int .u64 0,u],.agg #[.int .i64 seq,.slice none 0 0,.bool false,.int .i64 tok,.int .i64 at',.bool false,.int .i64 now],.bool true])∧OwnR w' w.heap.size u view∧Below w.heap.size w w':=by
 obtain⟨n,hn⟩ : ∃ n,l.length=n:=⟨_,rfl⟩
 obtain⟨ao,cap,rfl⟩:=chgs_shape hv hn
 obtain⟨ta,tc,rfl,-⟩:=ht.open'
 obtain⟨tn,htn⟩ : ∃ n,view.length=n:=⟨_,rfl⟩
 rw [htn]
 rw [htn] at ht
 have HTN:=hZq htn
 obtain⟨MB,LB,FB,RB,HB⟩:=ent4 w (.cells #[.int .i64 ca,.int .i64 cb,.int .i64 cd,.int .i64 ce,.slice ta tn tc,.int .i64 now] 65) (.cells #[.int .i64 seq,.slice ao n cap,.bool la,.int .i64 tok,.int .i64 at',.bool true,.int .i64 dg] 33) (.cells #[.int .i64 0,.int .i64 0,.bool false,.string ⟨#[]⟩,.int .i64 0,.int .i64 0,.int .i64 0,.string ⟨#[]⟩,.int .u64 0,.slice none 0 0] 49) (.cells #[.int .i64 0,.slice none 0 0,.bool false,.int .i64 0,.int .i64 0,.bool false,.int .i64 0] 33)
 have V:=hZq (hv.later HB.out)
 have T:=hZq (ht.later HB.out)
 clear hv ht hn
 have MBo:=blk6 MB.out
 have LBo:=blk7 LB.out
 have FBo:=blk10 FB.out
 have RBo:=blk7 RB.out
 have hix0:=@lix0
 have hix1:=@lix1
 have hix2:=@lix2
 go_enter Try.func19,Try.ntmps19
 go_wp2_with fail
 clear MBo LBo FBo RBo
 generalize (((w.alloc (.cells #[.int .i64 ca,.int .i64 cb,.int .i64 cd,.int .i64 ce,.slice ta tn tc,.int .i64 now] 65)).alloc (.cells #[.int .i64 seq,.slice ao n cap,.bool la,.int .i64 tok,.int .i64 at',.bool true,.int .i64 dg] 33)).alloc (.cells #[.int .i64 0,.int .i64 0,.bool false,.string ⟨#[]⟩,.int .i64 0,.int .i64 0,.int .i64 0,.string ⟨#[]⟩,.int .u64 0,.slice none 0 0] 49)).alloc (.cells #[.int .i64 0,.slice none 0 0,.bool false,.int .i64 0,.int .i64 0,.bool false,.int .i64 0] 33)=xw6 at MB LB FB RB V T HB ⊢
 have b5:=bl_newZ xw6 (.cells #[.func (.func 32) #[.agg #[.int .i64 ca,.int .i64 cb,.int .i64 cd,.int .i64 ce,.slice ta tn tc,.int .i64 now]] #[],.func (.func 33) #[.agg #[.int .i64 ca,.int .i64 cb,.int .i64 cd,.int .i64 ce,.slice ta tn tc,.int .i64 now]] #[],.func (.func 34) #[.agg #[.int .i64 ca,.int .i64 cb,.int .i64 cd,.int .i64 ce,.slice ta tn tc,.int .i64 now]] #[]] 76)
 replace MB:=hZq (upQ MB.out b5)
 replace LB:=hZq (upQ LB.out b5)
 replace FB:=hZq (upQ FB.out b5)
 replace RB:=hZq (upQ RB.out b5)
 replace V:=hZq (V.out.later b5)
 replace T:=hZq (Tab.later T.out b5)
 replace HB:=hZq (below2Z HB.out b5)
 clear b5
 generalize xw6.alloc (.cells #[.func (.func 32) #[.agg #[.int .i64 ca,.int .i64 cb,.int .i64 cd,.int .i64 ce,.slice ta tn tc,.int .i64 now]] #[],.func (.func 33) #[.agg #[.int .i64 ca,.int .i64 cb,.int .i64 cd,.int .i64 ce,.slice ta tn tc,.int .i64 now]] #[],.func (.func 34) #[.agg #[.int .i64 ca,.int .i64 cb,.int .i64 cd,.int .i64 ce,.slice ta tn tc,.int .i64 now]] #[]] 76)=w6 at MB LB FB RB V T HB ⊢
 go_loopw [21] (fun i wr => (i=.int .i64 0∧Hid (Below w6.heap.size w6 wr))) (fun i _ => 4 - (intOf i).toNat)
 case atStart => exact⟨rfl,Below.refl _ _⟩
 case round =>
  obtain⟨rfl,HN⟩:=hrel
  ·replace MB:=hZq (upQ MB.out HN.out)
   replace LB:=hZq (upQ LB.out HN.out)
   replace FB:=hZq (upQ FB.out HN.out)
   replace RB:=hZq (upQ RB.out HN.out)
   replace V:=hZq (V.out.later HN.out)
   replace T:=hZq (Tab.later T.out HN.out)
   replace HB:=hZq (below2Z HB.out HN.out)
   have LBo:=blk7 LB.out
   go_wp2_with fail
   clear LBo
   have hsz:=(Array.getElem?_eq_some_iff.1 RB.out).1
   refine (lsnap_yes V.out T.out seq tok at' dg ca cb cd ce now la htl).mono ?_
   rintro e w17 ⟨u,rfl,hu,b17⟩
   replace MB:=hZq (upQ MB.out b17)
   replace LB:=hZq (upQ LB.out b17)
   replace FB:=hZq (upQ FB.out b17)
   replace RB:=hZq (upQ RB.out b17)
   replace V:=hZq (V.out.later b17)
   replace T:=hZq (Tab.later T.out b17)
   replace HB:=hZq (below2Z HB.out b17)
   obtain⟨ua,uc,rfl⟩:=tab_shapeL hu.tab HTN.out
   have U:=hZq hu
   clear hu
   have hsz2:=b17.size
   clear b17
   have b18:=bl_newZ w17 (.cells #[.int .i64 3,.int .i64 0,.bool false,.string ⟨#[]⟩,.int .i64 0,.int .i64 0,.int .i64 0,.string ⟨#[]⟩,.int .u64 0,.slice ua tn uc] 49)
   have XF:=newQ w17 (.cells #[.int .i64 3,.int .i64 0,.bool false,.string ⟨#[]⟩,.int .i64 0,.int .i64 0,.int .i64 0,.string ⟨#[]⟩,.int .u64 0,.slice ua tn uc] 49)
   have hXF:w.heap.size≤w17.heap.size:=HB.out.size
   replace MB:=hZq (upQ MB.out b18)
   replace LB:=hZq (upQ LB.out b18)
   replace FB:=hZq (upQ FB.out b18)
   replace RB:=hZq (upQ RB.out b18)
   replace V:=hZq (V.out.later b18)
   replace T:=hZq (Tab.later T.out b18)
   replace U:=hZq (OwnR.later U.out b18)
   replace HB:=hZq (below2Z HB.out b18)
   clear b18
   replace XF:=hZq XF
   have b19:=bl_newZ (w17.alloc (.cells #[.int .i64 3,.int .i64 0,.bool false,.string ⟨#[]⟩,.int .i64 0,.int .i64 0,.int .i64 0,.string ⟨#[]⟩,.int .u64 0,.slice ua tn uc] 49)) (.cells #[.int .i64 seq,.slice none 0 0,.bool false,.int .i64 tok,.int .i64 at',.bool false,.int .i64 now] 33)
   have XL:=newQ (w17.alloc (.cells #[.int .i64 3,.int .i64 0,.bool false,.string ⟨#[]⟩,.int .i64 0,.int .i64 0,.int .i64 0,.string ⟨#[]⟩,.int .u64 0,.slice ua tn uc] 49)) (.cells #[.int .i64 seq,.slice none 0 0,.bool false,.int .i64 tok,.int .i64 at',.bool false,.int .i64 now] 33)
   have hXL:w.heap.size≤(w17.alloc (.cells #[.int .i64 3,.int .i64 0,.bool false,.string ⟨#[]⟩,.int .i64 0,.int .i64 0,.int .i64 0,.string ⟨#[]⟩,.int .u64 0,.slice ua tn uc] 49)).heap.size:=HB.out.size
   rw [World.size_alloc] at XL hXL
   replace MB:=hZq (upQ MB.out b19)
   replace LB:=hZq (upQ LB.out b19)
   replace FB:=hZq (upQ FB.out b19)
   replace RB:=hZq (upQ RB.out b19)
   replace XF:=hZq (upQ XF.out b19)
   replace V:=hZq (V.out.later b19)
   replace T:=hZq (Tab.later T.out b19)
   replace U:=hZq (OwnR.later U.out b19)
   replace HB:=hZq (below2Z HB.out b19)
   clear b19
   replace XL:=hZq XL
   go_upto_region 7 with fail
   generalize (w17.alloc (.cells #[.int .i64 3,.int .i64 0,.bool false,.string ⟨#[]⟩,.int .i64 0,.int .i64 0,.int .i64 0,.string ⟨#[]⟩,.int .u64 0,.slice ua tn uc] 49)).alloc (.cells #[.int .i64 seq,.slice none 0 0,.bool false,.int .i64 tok,.int .i64 at',.bool false,.int .i64 now] 33)=w20 at MB LB FB RB XF XL V T U HB ⊢
   have hx0:¬ w17.heap.size=w.heap.size+1+1:=by omega
   have hx1:¬ w17.heap.size=w.heap.size+1+1+1:=by omega
   have hx2:¬ w17.heap.size+1=w.heap.size+1+1:=by omega
   have hx3:¬ w17.heap.size+1=w.heap.size+1+1+1:=by omega
   obtain⟨BS,hBS⟩ : ∃ BS:List (Nat × List Value),BS=[(w17.heap.size,[.int .i64 3,.int .i64 0,.bool false,.string ⟨#[]⟩,.int .i64 0,.int .i64 0,.int .i64 0,.string ⟨#[]⟩,.int .u64 0,.slice ua tn uc]),(w17.heap.size+1,[.int .i64 seq,.slice none 0 0,.bool false,.int .i64 tok,.int .i64 at',.bool false,.int .i64 now])]:=⟨_,rfl⟩
   have D0:=hZq (show heldB w20 BS from by rw [hBS]; exact heldB_cons (cellsAt_block XF.out) (heldB_cons (cellsAt_block XL.out) (heldB_nil _)))
   have hL:=heldB_at (b:=w17.heap.size) (vs:=[.int .i64 3,.int .i64 0,.bool false,.string ⟨#[]⟩,.int .i64 0,.int .i64 0,.int .i64 0,.string ⟨#[]⟩,.int .u64 0,.slice ua tn uc]) (bs:=BS) (by rw [hBS]; simp)
   have hq0:=hL 0 _ rfl
   have hq1:=hL 1 _ rfl
   have hq2:=hL 2 _ rfl
   have hq3:=hL 3 _ rfl
   have hq4:=hL 4 _ rfl
   have hq5:=hL 5 _ rfl
   have hq6:=hL 6 _ rfl
   have hq7:=hL 7 _ rfl
   have hq8:=hL 8 _ rfl
   have hq9:=hL 9 _ rfl
   clear hL
   have hL:=heldB_at (b:=w17.heap.size+1) (vs:=[.int .i64 seq,.slice none 0 0,.bool false,.int .i64 tok,.int .i64 at',.bool false,.int .i64 now]) (bs:=BS) (by rw [hBS]; simp)
   have hq10:=hL 0 _ rfl
   have hq11:=hL 1 _ rfl
   have hq12:=hL 2 _ rfl
   have hq13:=hL 3 _ rfl
   have hq14:=hL 4 _ rfl
   have hq15:=hL 5 _ rfl
   have hq16:=hL 6 _ rfl
   clear hL
   have hBN:∀ p ∈ BS,(¬ p.1=w.heap.size+1+1)∧¬ p.1=w.heap.size+1+1+1:=by rw [hBS]; intro p hp; simp only [List.mem_cons,List.not_mem_nil,or_false] at hp; rcases hp with rfl | rfl <;> (constructor <;> simp only <;> omega)
   clear hBS
   have K0:Hid (Below w20.heap.size w20 w20.drew):=hZq (Below.refl _ _).drew
   refine wp_region_held_drew (S:=(fun X => heldB X BS)) (by kernel_rfl) ?_ (fun hHeld => ?_)
   ·exact heldB_up K0.out D0.out
   generalize w20.drew=z0 at K0 hHeld ⊢
   refine tkZ 0 ?_
   refine tkZ 1 ?_
   have FB1:=upQ FB.out (K0.out)
   have RB1:=upQ RB.out (K0.out)
   obtain⟨⟨c0,c1,c2,c3,c4,c5,c6,c7,c8,c9⟩,⟨g0,g1,g2,g3,g4,g5,g6,g7,g8,g9⟩⟩:=blk10 FB1
   refine wpAnyH_ready (rs:=[2]) (by as_aux_lemma => kernel_rfl) (by simp) ?_
   refine AllReadyH.cons rfl (fun Kx hK => ?_) AllReadyH.nil
   go_simp
   clear c0 c1 c2 c3 c4 c5 c6 c7 c8 c9 g0 g1 g2 g3 g4 g5 g6 g7 g8 g9
   have FZ:=hZq (stN10_heap FB1 (.int .i64 3) (.int .i64 0) (.bool false) (.string ⟨#[]⟩) (.int .i64 0) (.int .i64 0) (.int .i64 0) (.string ⟨#[]⟩) (.int .u64 0) (.slice ua tn uc))
   have RZ:=hZq ((stN10_far z0 (w.heap.size+1+1) (.int .i64 3) (.int .i64 0) (.bool false) (.string ⟨#[]⟩) (.int .i64 0) (.int .i64 0) (.int .i64 0) (.string ⟨#[]⟩) (.int .u64 0) (.slice ua tn uc) (by omega:¬ w.heap.size+1+1+1=w.heap.size+1+1)).trans RB1)
   have HZ:=hZq (stN10_below (below2Z HB.out (K0.out)) (by omega:w.heap.size≤w.heap.size+1+1) (.int .i64 3) (.int .i64 0) (.bool false) (.string ⟨#[]⟩) (.int .i64 0) (.int .i64 0) (.int .i64 0) (.string ⟨#[]⟩) (.int .u64 0) (.slice ua tn uc))
   have DZ:=hZq (heldB_far (heldB_up (K0.out) D0.out) (fun k hk => stN10_far z0 (w.heap.size+1+1) (.int .i64 3) (.int .i64 0) (.bool false) (.string ⟨#[]⟩) (.int .i64 0) (.int .i64 0) (.int .i64 0) (.string ⟨#[]⟩) (.int .u64 0) (.slice ua tn uc) hk) (fun p hp => (hBN p hp).1))
   replace U:=hZq (ownR_stN10 (U.out.later K0.out) (by omega:w.heap.size+1+1 < wr.heap.size) (.int .i64 3) (.int .i64 0) (.bool false) (.string ⟨#[]⟩) (.int .i64 0) (.int .i64 0) (.int .i64 0) (.string ⟨#[]⟩) (.int .u64 0) (.slice ua tn uc))
   refine hK.out _ _ ?_ (fun hHeld2 => ?_)
   ·exact DZ.out
   clear hK Kx hHeld FB1 RB1
   have hHeld:=hHeld2
   clear hHeld2
   obtain⟨zf,hzf⟩ : ∃ X,X=stN10 z0 (w.heap.size+1+1) (.int .i64 3) (.int .i64 0) (.bool false) (.string ⟨#[]⟩) (.int .i64 0) (.int .i64 0) (.int .i64 0) (.string ⟨#[]⟩) (.int .u64 0) (.slice ua tn uc):=⟨_,rfl⟩
   rw [← hzf] at FZ RZ HZ DZ U
   unfold stN10 at hzf
   simp only [← hzf] at hHeld ⊢
   clear hzf
   obtain⟨⟨c0,c1,c2,c3,c4,c5,c6⟩,⟨g0,g1,g2,g3,g4,g5,g6⟩⟩:=blk7 RZ.out
   refine wpAnyH_ready (rs:=[3]) (by as_aux_lemma => kernel_rfl) (by simp) ?_
   refine AllReadyH.cons rfl (fun Kx hK => ?_) AllReadyH.nil
   go_simp
   clear c0 c1 c2 c3 c4 c5 c6 g0 g1 g2 g3 g4 g5 g6
   have RZ2:=hZq (stN7_heap RZ.out (.int .i64 seq) (.slice none 0 0) (.bool false) (.int .i64 tok) (.int .i64 at') (.bool false) (.int .i64 now))
   have FZ2:=hZq ((stN7_far zf (w.heap.size+1+1+1) (.int .i64 seq) (.slice none 0 0) (.bool false) (.int .i64 tok) (.int .i64 at') (.bool false) (.int .i64 now) (by omega:¬ w.heap.size+1+1=w.heap.size+1+1+1)).trans FZ.out)
   have HZ2:=hZq (stN7_below HZ.out (by omega:w.heap.size≤w.heap.size+1+1+1) (.int .i64 seq) (.slice none 0 0) (.bool false) (.int .i64 tok) (.int .i64 at') (.bool false) (.int .i64 now))
   have DZ2:=hZq (heldB_far DZ.out (fun k hk => stN7_far zf (w.heap.size+1+1+1) (.int .i64 seq) (.slice none 0 0) (.bool false) (.int .i64 tok) (.int .i64 at') (.bool false) (.int .i64 now) hk) (fun p hp => (hBN p hp).2))
   replace U:=hZq (ownR_stN7 U.out (by omega:w.heap.size+1+1+1 < wr.heap.size) (.int .i64 seq) (.slice none 0 0) (.bool false) (.int .i64 tok) (.int .i64 at') (.bool false) (.int .i64 now))
   refine hK.out _ _ ?_ (fun hHeld2 => ?_)
   ·exact DZ2.out
   clear hK Kx hHeld RZ FZ DZ HZ
   have hHeld:=hHeld2
   clear hHeld2
   obtain⟨zr,hzr⟩ : ∃ X,X=stN7 zf (w.heap.size+1+1+1) (.int .i64 seq) (.slice none 0 0) (.bool false) (.int .i64 tok) (.int .i64 at') (.bool false) (.int .i64 now):=⟨_,rfl⟩
   rw [← hzr] at FZ2 RZ2 HZ2 DZ2 U
   unfold stN7 at hzr
   simp only [← hzr] at hHeld ⊢
   clear hzr
   refine tkZ 4 ?_
   refine wpAnyH_done (by kernel_rfl) ?_ _
   obtain⟨⟨u0,u1,u2,u3,u4,u5,u6,u7,u8,u9⟩,-⟩:=blk10 FZ2.out
   obtain⟨⟨y0,y1,y2,y3,y4,y5,y6⟩,-⟩:=blk7 RZ2.out
   go_wp2_with fail
   refine bodyPost_ret (v:=.tuple #[.agg #[.int .i64 3,.int .i64 0,.bool false,.string ⟨#[]⟩,.int .i64 0,.int .i64 0,.int .i64 0,.string ⟨#[]⟩,.int .u64 0,.slice ua tn uc],.agg #[.int .i64 seq,.slice none 0 0,.bool false,.int .i64 tok,.int .i64 at',.bool false,.int .i64 now],.bool true]) (by simp [results,Try.results19,go_sem,u0,u1,u2,u3,u4,u5,u6,u7,u8,u9,y0,y1,y2,y3,y4,y5,y6]) rfl ?_
   exact⟨_,rfl,ownR_low U.out (by omega),HZ2.out⟩

theorem lnext_d {w:World} {v vt:Value} {l:List Chg} {view:List Row} (hv:Chgs w v l) (ht:Tab w vt view) (seq tok at' dg ca cb cd ce now:Int) (la:Bool) {r:List Chg} {xc xs:List UInt8} {xo:Bool} {xa xb xd:Int} (he:l=⟨xc,xo,⟨xa,xb,xd,xs⟩⟩ :: r) (hl:r.length < 1000) :
  Calls Try.prog 19 #[.agg #[.int .i64 ca,.int .i64 cb,.int .i64 cd,.int .i64 ce,vt,.int .i64 now],.agg #[.int .i64 seq,v,.bool la,.int .i64 tok,.int .i64 at',.bool false,.int .i64 dg]] w fun e w' => ∃ u,e=.returned (.tuple #[.agg #[.int .i64 1,.int .i64 0,.bool xo,.string ⟨xc.toArray⟩,.int .i64 xa,.int .i64 xb,.int .i64 xd,.string ⟨xs.toArray⟩,.int .u64 0,.slice none 0 0],.agg #[.int .i64 seq,u,.bool la,.int .i64 tok,.int .i64 at',.bool false,.int .i64 dg],.bool true])∧OwnQ w' w.heap.size u r∧Below w.heap.size w w':=by
 obtain⟨n,hn⟩ : ∃ n,l.length=n:=⟨_,rfl⟩
 obtain⟨ao,cap,rfl⟩:=chgs_shape hv hn
 obtain⟨ta,tc,rfl,-⟩:=ht.open'
 obtain⟨tn,htn⟩ : ∃ n,view.length=n:=⟨_,rfl⟩
 rw [htn]
 rw [htn] at ht
 have HE:=hZq he
 obtain⟨m,hm⟩ : ∃ m,r.length=m:=⟨_,rfl⟩
 have HM:=hZq hm
 clear he hm
 obtain⟨MB,LB,FB,RB,HB⟩:=ent4 w (.cells #[.int .i64 ca,.int .i64 cb,.int .i64 cd,.int .i64 ce,.slice ta tn tc,.int .i64 now] 65) (.cells #[.int .i64 seq,.slice ao n cap,.bool la,.int .i64 tok,.int .i64 at',.bool false,.int .i64 dg] 33) (.cells #[.int .i64 0,.int .i64 0,.bool false,.string ⟨#[]⟩,.int .i64 0,.int .i64 0,.int .i64 0,.string ⟨#[]⟩,.int .u64 0,.slice none 0 0] 49) (.cells #[.int .i64 0,.slice none 0 0,.bool false,.int .i64 0,.int .i64 0,.bool false,.int .i64 0] 33)
 have V:=hZq (hv.later HB.out)
 have T:=hZq (ht.later HB.out)
 clear hv ht hn
 have MBo:=blk6 MB.out
 have LBo:=blk7 LB.out
 have FBo:=blk10 FB.out
 have RBo:=blk7 RB.out
 have hix0:=@lix0
 have hix1:=@lix1
 have hix2:=@lix2
 go_enter Try.func19,Try.ntmps19
 go_wp2_with fail
 clear MBo LBo FBo RBo
 generalize (((w.alloc (.cells #[.int .i64 ca,.int .i64 cb,.int .i64 cd,.int .i64 ce,.slice ta tn tc,.int .i64 now] 65)).alloc (.cells #[.int .i64 seq,.slice ao n cap,.bool la,.int .i64 tok,.int .i64 at',.bool false,.int .i64 dg] 33)).alloc (.cells #[.int .i64 0,.int .i64 0,.bool false,.string ⟨#[]⟩,.int .i64 0,.int .i64 0,.int .i64 0,.string ⟨#[]⟩,.int .u64 0,.slice none 0 0] 49)).alloc (.cells #[.int .i64 0,.slice none 0 0,.bool false,.int .i64 0,.int .i64 0,.bool false,.int .i64 0] 33)=xw6 at MB LB FB RB V T HB ⊢
 have b5:=bl_newZ xw6 (.cells #[.func (.func 32) #[.agg #[.int .i64 ca,.int .i64 cb,.int .i64 cd,.int .i64 ce,.slice ta tn tc,.int .i64 now]] #[],.func (.func 33) #[.agg #[.int .i64 ca,.int .i64 cb,.int .i64 cd,.int .i64 ce,.slice ta tn tc,.int .i64 now]] #[],.func (.func 34) #[.agg #[.int .i64 ca,.int .i64 cb,.int .i64 cd,.int .i64 ce,.slice ta tn tc,.int .i64 now]] #[]] 76)
 replace MB:=hZq (upQ MB.out b5)
 replace LB:=hZq (upQ LB.out b5)
 replace FB:=hZq (upQ FB.out b5)
 replace RB:=hZq (upQ RB.out b5)
 replace V:=hZq (V.out.later b5)
 replace T:=hZq (Tab.later T.out b5)
 replace HB:=hZq (below2Z HB.out b5)
 clear b5
 generalize xw6.alloc (.cells #[.func (.func 32) #[.agg #[.int .i64 ca,.int .i64 cb,.int .i64 cd,.int .i64 ce,.slice ta tn tc,.int .i64 now]] #[],.func (.func 33) #[.agg #[.int .i64 ca,.int .i64 cb,.int .i64 cd,.int .i64 ce,.slice ta tn tc,.int .i64 now]] #[],.func (.func 34) #[.agg #[.int .i64 ca,.int .i64 cb,.int .i64 cd,.int .i64 ce,.slice ta tn tc,.int .i64 now]] #[]] 76)=w6 at MB LB FB RB V T HB ⊢
 go_loopw [21] (fun i wr => (i=.int .i64 0∧Hid (Below w6.heap.size w6 wr))∨(i=.int .i64 1∧Hid (Below w6.heap.size w6 wr))) (fun i _ => 4 - (intOf i).toNat)
 case atStart => exact .inl ⟨rfl,Below.refl _ _⟩
 case round =>
  obtain⟨rfl,HN⟩ | ⟨rfl,HN⟩:=hrel
  ·replace MB:=hZq (upQ MB.out HN.out)
   replace LB:=hZq (upQ LB.out HN.out)
   replace FB:=hZq (upQ FB.out HN.out)
   replace RB:=hZq (upQ RB.out HN.out)
   replace V:=hZq (V.out.later HN.out)
   replace T:=hZq (Tab.later T.out HN.out)
   replace HB:=hZq (below2Z HB.out HN.out)
   have LBo:=blk7 LB.out
   go_wp2_with fail
   clear LBo
   refine (lsnap_no V.out T.out seq tok at' dg ca cb cd ce now la).mono ?_
   rintro e w17 ⟨rfl,b17⟩
   replace MB:=hZq (upQ MB.out b17)
   replace LB:=hZq (upQ LB.out b17)
   replace FB:=hZq (upQ FB.out b17)
   replace RB:=hZq (upQ RB.out b17)
   replace V:=hZq (V.out.later b17)
   replace T:=hZq (Tab.later T.out b17)
   replace HB:=hZq (below2Z HB.out b17)
   have HN2:=hZq (below2Z HN.out b17)
   clear b17
   have HN3:=hZq (bl_allocZ (bl_allocZ HN2.out (.cells #[.int .i64 0,.int .i64 0,.bool false,.string ⟨#[]⟩,.int .i64 0,.int .i64 0,.int .i64 0,.string ⟨#[]⟩,.int .u64 0,.slice none 0 0] 49)) (.cells #[.int .i64 seq,.slice ao n cap,.bool la,.int .i64 tok,.int .i64 at',.bool false,.int .i64 dg] 33))
   clear MB
   clear LB
   clear FB
   clear RB
   clear V
   clear T
   go_wp2_with fail
   go_roundw
   case rel => exact .inr (⟨rfl,HN3⟩)
   case measure => simp [intOf]
  ·replace MB:=hZq (upQ MB.out HN.out)
   replace LB:=hZq (upQ LB.out HN.out)
   replace FB:=hZq (upQ FB.out HN.out)
   replace RB:=hZq (upQ RB.out HN.out)
   replace V:=hZq (V.out.later HN.out)
   replace T:=hZq (Tab.later T.out HN.out)
   replace HB:=hZq (below2Z HB.out HN.out)
   have LBo:=blk7 LB.out
   go_wp2_with fail
   clear LBo
   have hsz:=(Array.getElem?_eq_some_iff.1 RB.out).1
   refine (ldel_yes V.out T.out seq tok at' dg ca cb cd ce now la HE.out hl).mono ?_
   rintro e w27 ⟨u,rfl,hu,b27⟩
   replace MB:=hZq (upQ MB.out b27)
   replace LB:=hZq (upQ LB.out b27)
   replace FB:=hZq (upQ FB.out b27)
   replace RB:=hZq (upQ RB.out b27)
   replace V:=hZq (V.out.later b27)
   replace T:=hZq (Tab.later T.out b27)
   replace HB:=hZq (below2Z HB.out b27)
   obtain⟨a2,c2,rfl⟩:=ownQ_shapeL hu HM.out
   have U:=hZq hu
   clear hu
   have hsz2:=b27.size
   clear b27
   have b28:=bl_newZ w27 (.cells #[.int .i64 1,.int .i64 0,.bool xo,.string ⟨xc.toArray⟩,.int .i64 xa,.int .i64 xb,.int .i64 xd,.string ⟨xs.toArray⟩,.int .u64 0,.slice none 0 0] 49)
   have XF:=newQ w27 (.cells #[.int .i64 1,.int .i64 0,.bool xo,.string ⟨xc.toArray⟩,.int .i64 xa,.int .i64 xb,.int .i64 xd,.string ⟨xs.toArray⟩,.int .u64 0,.slice none 0 0] 49)
   have hXF:w.heap.size≤w27.heap.size:=HB.out.size
   replace MB:=hZq (upQ MB.out b28)
   replace LB:=hZq (upQ LB.out b28)
   replace FB:=hZq (upQ FB.out b28)
   replace RB:=hZq (upQ RB.out b28)
   replace V:=hZq (V.out.later b28)
   replace T:=hZq (Tab.later T.out b28)
   replace U:=hZq (OwnS.later U.out b28)
   replace HB:=hZq (below2Z HB.out b28)
   clear b28
   replace XF:=hZq XF
   have b29:=bl_newZ (w27.alloc (.cells #[.int .i64 1,.int .i64 0,.bool xo,.string ⟨xc.toArray⟩,.int .i64 xa,.int .i64 xb,.int .i64 xd,.string ⟨xs.toArray⟩,.int .u64 0,.slice none 0 0] 49)) (.cells #[.int .i64 seq,.slice a2 m c2,.bool la,.int .i64 tok,.int .i64 at',.bool false,.int .i64 dg] 33)
   have XL:=newQ (w27.alloc (.cells #[.int .i64 1,.int .i64 0,.bool xo,.string ⟨xc.toArray⟩,.int .i64 xa,.int .i64 xb,.int .i64 xd,.string ⟨xs.toArray⟩,.int .u64 0,.slice none 0 0] 49)) (.cells #[.int .i64 seq,.slice a2 m c2,.bool la,.int .i64 tok,.int .i64 at',.bool false,.int .i64 dg] 33)
   have hXL:w.heap.size≤(w27.alloc (.cells #[.int .i64 1,.int .i64 0,.bool xo,.string ⟨xc.toArray⟩,.int .i64 xa,.int .i64 xb,.int .i64 xd,.string ⟨xs.toArray⟩,.int .u64 0,.slice none 0 0] 49)).heap.size:=HB.out.size
   rw [World.size_alloc] at XL hXL
   replace MB:=hZq (upQ MB.out b29)
   replace LB:=hZq (upQ LB.out b29)
   replace FB:=hZq (upQ FB.out b29)
   replace RB:=hZq (upQ RB.out b29)
   replace XF:=hZq (upQ XF.out b29)
   replace V:=hZq (V.out.later b29)
   replace T:=hZq (Tab.later T.out b29)
   replace U:=hZq (OwnS.later U.out b29)
   replace HB:=hZq (below2Z HB.out b29)
   clear b29
   replace XL:=hZq XL
   go_upto_region 7 with fail
   generalize (w27.alloc (.cells #[.int .i64 1,.int .i64 0,.bool xo,.string ⟨xc.toArray⟩,.int .i64 xa,.int .i64 xb,.int .i64 xd,.string ⟨xs.toArray⟩,.int .u64 0,.slice none 0 0] 49)).alloc (.cells #[.int .i64 seq,.slice a2 m c2,.bool la,.int .i64 tok,.int .i64 at',.bool false,.int .i64 dg] 33)=w30 at MB LB FB RB XF XL V T U HB ⊢
   have hx0:¬ w27.heap.size=w.heap.size+1+1:=by omega
   have hx1:¬ w27.heap.size=w.heap.size+1+1+1:=by omega
   have hx2:¬ w27.heap.size+1=w.heap.size+1+1:=by omega
   have hx3:¬ w27.heap.size+1=w.heap.size+1+1+1:=by omega
   obtain⟨BS,hBS⟩ : ∃ BS:List (Nat × List Value),BS=[(w27.heap.size,[.int .i64 1,.int .i64 0,.bool xo,.string ⟨xc.toArray⟩,.int .i64 xa,.int .i64 xb,.int .i64 xd,.string ⟨xs.toArray⟩,.int .u64 0,.slice none 0 0]),(w27.heap.size+1,[.int .i64 seq,.slice a2 m c2,.bool la,.int .i64 tok,.int .i64 at',.bool false,.int .i64 dg])]:=⟨_,rfl⟩
   have D0:=hZq (show heldB w30 BS from by rw [hBS]; exact heldB_cons (cellsAt_block XF.out) (heldB_cons (cellsAt_block XL.out) (heldB_nil _)))
   have hL:=heldB_at (b:=w27.heap.size) (vs:=[.int .i64 1,.int .i64 0,.bool xo,.string ⟨xc.toArray⟩,.int .i64 xa,.int .i64 xb,.int .i64 xd,.string ⟨xs.toArray⟩,.int .u64 0,.slice none 0 0]) (bs:=BS) (by rw [hBS]; simp)
   have hq0:=hL 0 _ rfl
   have hq1:=hL 1 _ rfl
   have hq2:=hL 2 _ rfl
   have hq3:=hL 3 _ rfl
   have hq4:=hL 4 _ rfl
   have hq5:=hL 5 _ rfl
   have hq6:=hL 6 _ rfl
   have hq7:=hL 7 _ rfl
   have hq8:=hL 8 _ rfl
   have hq9:=hL 9 _ rfl
   clear hL
   have hL:=heldB_at (b:=w27.heap.size+1) (vs:=[.int .i64 seq,.slice a2 m c2,.bool la,.int .i64 tok,.int .i64 at',.bool false,.int .i64 dg]) (bs:=BS) (by rw [hBS]; simp)
   have hq10:=hL 0 _ rfl
   have hq11:=hL 1 _ rfl
   have hq12:=hL 2 _ rfl
   have hq13:=hL 3 _ rfl
   have hq14:=hL 4 _ rfl
   have hq15:=hL 5 _ rfl
   have hq16:=hL 6 _ rfl
   clear hL
   have hBN:∀ p ∈ BS,(¬ p.1=w.heap.size+1+1)∧¬ p.1=w.heap.size+1+1+1:=by rw [hBS]; intro p hp; simp only [List.mem_cons,List.not_mem_nil,or_false] at hp; rcases hp with rfl | rfl <;> (constructor <;> simp only <;> omega)
   clear hBS
   have K0:Hid (Below w30.heap.size w30 w30.drew):=hZq (Below.refl _ _).drew
   refine wp_region_held_drew (S:=(fun X => heldB X BS)) (by kernel_rfl) ?_ (fun hHeld => ?_)
   ·exact heldB_up K0.out D0.out
   generalize w30.drew=z0 at K0 hHeld ⊢
   refine tkZ 0 ?_
   refine tkZ 1 ?_
   have FB1:=upQ FB.out (K0.out)
   have RB1:=upQ RB.out (K0.out)
   obtain⟨⟨c0,c1,c2,c3,c4,c5,c6,c7,c8,c9⟩,⟨g0,g1,g2,g3,g4,g5,g6,g7,g8,g9⟩⟩:=blk10 FB1
   refine wpAnyH_ready (rs:=[2]) (by as_aux_lemma => kernel_rfl) (by simp) ?_
   refine AllReadyH.cons rfl (fun Kx hK => ?_) AllReadyH.nil
   go_simp
   clear c0 c1 c2 c3 c4 c5 c6 c7 c8 c9 g0 g1 g2 g3 g4 g5 g6 g7 g8 g9
   have FZ:=hZq (stN10_heap FB1 (.int .i64 1) (.int .i64 0) (.bool xo) (.string ⟨xc.toArray⟩) (.int .i64 xa) (.int .i64 xb) (.int .i64 xd) (.string ⟨xs.toArray⟩) (.int .u64 0) (.slice none 0 0))
   have RZ:=hZq ((stN10_far z0 (w.heap.size+1+1) (.int .i64 1) (.int .i64 0) (.bool xo) (.string ⟨xc.toArray⟩) (.int .i64 xa) (.int .i64 xb) (.int .i64 xd) (.string ⟨xs.toArray⟩) (.int .u64 0) (.slice none 0 0) (by omega:¬ w.heap.size+1+1+1=w.heap.size+1+1)).trans RB1)
   have HZ:=hZq (stN10_below (below2Z HB.out (K0.out)) (by omega:w.heap.size≤w.heap.size+1+1) (.int .i64 1) (.int .i64 0) (.bool xo) (.string ⟨xc.toArray⟩) (.int .i64 xa) (.int .i64 xb) (.int .i64 xd) (.string ⟨xs.toArray⟩) (.int .u64 0) (.slice none 0 0))
   have DZ:=hZq (heldB_far (heldB_up (K0.out) D0.out) (fun k hk => stN10_far z0 (w.heap.size+1+1) (.int .i64 1) (.int .i64 0) (.bool xo) (.string ⟨xc.toArray⟩) (.int .i64 xa) (.int .i64 xb) (.int .i64 xd) (.string ⟨xs.toArray⟩) (.int .u64 0) (.slice none 0 0) hk) (fun p hp => (hBN p hp).1))
   replace U:=hZq (ownQ_far (OwnS.later U.out K0.out) (fun g hg => stN10_far z0 (w.heap.size+1+1) (.int .i64 1) (.int .i64 0) (.bool xo) (.string ⟨xc.toArray⟩) (.int .i64 xa) (.int .i64 xb) (.int .i64 xd) (.string ⟨xs.toArray⟩) (.int .u64 0) (.slice none 0 0) (by omega)))
   refine hK.out _ _ ?_ (fun hHeld2 => ?_)
   ·exact DZ.out
   clear hK Kx hHeld FB1 RB1
   have hHeld:=hHeld2
   clear hHeld2
   obtain⟨zf,hzf⟩ : ∃ X,X=stN10 z0 (w.heap.size+1+1) (.int .i64 1) (.int .i64 0) (.bool xo) (.string ⟨xc.toArray⟩) (.int .i64 xa) (.int .i64 xb) (.int .i64 xd) (.string ⟨xs.toArray⟩) (.int .u64 0) (.slice none 0 0):=⟨_,rfl⟩
   rw [← hzf] at FZ RZ HZ DZ U
   unfold stN10 at hzf
   simp only [← hzf] at hHeld ⊢
   clear hzf
   obtain⟨⟨c0,c1,c2,c3,c4,c5,c6⟩,⟨g0,g1,g2,g3,g4,g5,g6⟩⟩:=blk7 RZ.out
   refine wpAnyH_ready (rs:=[3]) (by as_aux_lemma => kernel_rfl) (by simp) ?_
   refine AllReadyH.cons rfl (fun Kx hK => ?_) AllReadyH.nil
   go_simp
   clear c0 c1 c2 c3 c4 c5 c6 g0 g1 g2 g3 g4 g5 g6
   have RZ2:=hZq (stN7_heap RZ.out (.int .i64 seq) (.slice a2 m c2) (.bool la) (.int .i64 tok) (.int .i64 at') (.bool false) (.int .i64 dg))
   have FZ2:=hZq ((stN7_far zf (w.heap.size+1+1+1) (.int .i64 seq) (.slice a2 m c2) (.bool la) (.int .i64 tok) (.int .i64 at') (.bool false) (.int .i64 dg) (by omega:¬ w.heap.size+1+1=w.heap.size+1+1+1)).trans FZ.out)
   have HZ2:=hZq (stN7_below HZ.out (by omega:w.heap.size≤w.heap.size+1+1+1) (.int .i64 seq) (.slice a2 m c2) (.bool la) (.int .i64 tok) (.int .i64 at') (.bool false) (.int .i64 dg))
   have DZ2:=hZq (heldB_far DZ.out (fun k hk => stN7_far zf (w.heap.size+1+1+1) (.int .i64 seq) (.slice a2 m c2) (.bool la) (.int .i64 tok) (.int .i64 at') (.bool false) (.int .i64 dg) hk) (fun p hp => (hBN p hp).2))
   replace U:=hZq (ownQ_far U.out (fun g hg => stN7_far zf (w.heap.size+1+1+1) (.int .i64 seq) (.slice a2 m c2) (.bool la) (.int .i64 tok) (.int .i64 at') (.bool false) (.int .i64 dg) (by omega)))
   refine hK.out _ _ ?_ (fun hHeld2 => ?_)
   ·exact DZ2.out
   clear hK Kx hHeld RZ FZ DZ HZ
   have hHeld:=hHeld2
   clear hHeld2
   obtain⟨zr,hzr⟩ : ∃ X,X=stN7 zf (w.heap.size+1+1+1) (.int .i64 seq) (.slice a2 m c2) (.bool la) (.int .i64 tok) (.int .i64 at') (.bool false) (.int .i64 dg):=⟨_,rfl⟩
   rw [← hzr] at FZ2 RZ2 HZ2 DZ2 U
   unfold stN7 at hzr
   simp only [← hzr] at hHeld ⊢
   clear hzr
   refine tkZ 4 ?_
   refine wpAnyH_done (by kernel_rfl) ?_ _
   obtain⟨⟨u0,u1,u2,u3,u4,u5,u6,u7,u8,u9⟩,-⟩:=blk10 FZ2.out
   obtain⟨⟨y0,y1,y2,y3,y4,y5,y6⟩,-⟩:=blk7 RZ2.out
   go_wp2_with fail
   refine bodyPost_ret (v:=.tuple #[.agg #[.int .i64 1,.int .i64 0,.bool xo,.string ⟨xc.toArray⟩,.int .i64 xa,.int .i64 xb,.int .i64 xd,.string ⟨xs.toArray⟩,.int .u64 0,.slice none 0 0],.agg #[.int .i64 seq,.slice a2 m c2,.bool la,.int .i64 tok,.int .i64 at',.bool false,.int .i64 dg],.bool true]) (by simp [results,Try.results19,go_sem,u0,u1,u2,u3,u4,u5,u6,u7,u8,u9,y0,y1,y2,y3,y4,y5,y6]) rfl ?_
   exact⟨_,rfl,ownS_low U.out (by omega),HZ2.out⟩

theorem lnext_g {w:World} {v vt:Value} {l:List Chg} {view:List Row} (hv:Chgs w v l) (ht:Tab w vt view) (seq tok at' dg ca cb cd ce now:Int) (la:Bool) (he:l=[]) (hn0:0≤now) (hn1:now≤1099511627776) (hd0:0≤dg) (hd1:dg≤1099511627776) (hdue:¬ now - dg < ce) (hsh:Short view) (hlv:view.length≤1000) :
  Calls Try.prog 19 #[.agg #[.int .i64 ca,.int .i64 cb,.int .i64 cd,.int .i64 ce,vt,.int .i64 now],.agg #[.int .i64 seq,v,.bool la,.int .i64 tok,.int .i64 at',.bool false,.int .i64 dg]] w fun e w' => e=.returned (.tuple #[.agg #[.int .i64 2,.int .i64 0,.bool false,.string ⟨#[]⟩,.int .i64 0,.int .i64 0,.int .i64 0,.string ⟨#[]⟩,.int .u64 (diSum view),.slice none 0 0],.agg #[.int .i64 seq,v,.bool la,.int .i64 tok,.int .i64 at',.bool false,.int .i64 now],.bool true])∧Below w.heap.size w w':=by
 obtain⟨n,hn⟩ : ∃ n,l.length=n:=⟨_,rfl⟩
 obtain⟨ao,cap,rfl⟩:=chgs_shape hv hn
 obtain⟨ta,tc,rfl,-⟩:=ht.open'
 obtain⟨tn,htn⟩ : ∃ n,view.length=n:=⟨_,rfl⟩
 rw [htn]
 rw [htn] at ht
 have HE:=hZq he
 have HSH:=hZq hsh
 clear he hsh
 obtain⟨dsum,hds⟩ : ∃ s,diSum view=s:=⟨_,rfl⟩
 have HDS:=hZq hds
 rw [hds]
 clear hds
 obtain⟨MB,LB,FB,RB,HB⟩:=ent4 w (.cells #[.int .i64 ca,.int .i64 cb,.int .i64 cd,.int .i64 ce,.slice ta tn tc,.int .i64 now] 65) (.cells #[.int .i64 seq,.slice ao n cap,.bool la,.int .i64 tok,.int .i64 at',.bool false,.int .i64 dg] 33) (.cells #[.int .i64 0,.int .i64 0,.bool false,.string ⟨#[]⟩,.int .i64 0,.int .i64 0,.int .i64 0,.string ⟨#[]⟩,.int .u64 0,.slice none 0 0] 49) (.cells #[.int .i64 0,.slice none 0 0,.bool false,.int .i64 0,.int .i64 0,.bool false,.int .i64 0] 33)
 have V:=hZq (hv.later HB.out)
 have T:=hZq (ht.later HB.out)
 clear hv ht hn
 have MBo:=blk6 MB.out
 have LBo:=blk7 LB.out
 have FBo:=blk10 FB.out
 have RBo:=blk7 RB.out
 have hix0:=@lix0
 have hix1:=@lix1
 have hix2:=@lix2
 go_enter Try.func19,Try.ntmps19
 go_wp2_with fail
 clear MBo LBo FBo RBo
 generalize (((w.alloc (.cells #[.int .i64 ca,.int .i64 cb,.int .i64 cd,.int .i64 ce,.slice ta tn tc,.int .i64 now] 65)).alloc (.cells #[.int .i64 seq,.slice ao n cap,.bool la,.int .i64 tok,.int .i64 at',.bool false,.int .i64 dg] 33)).alloc (.cells #[.int .i64 0,.int .i64 0,.bool false,.string ⟨#[]⟩,.int .i64 0,.int .i64 0,.int .i64 0,.string ⟨#[]⟩,.int .u64 0,.slice none 0 0] 49)).alloc (.cells #[.int .i64 0,.slice none 0 0,.bool false,.int .i64 0,.int .i64 0,.bool false,.int .i64 0] 33)=xw6 at MB LB FB RB V T HB ⊢
 have b5:=bl_newZ xw6 (.cells #[.func (.func 32) #[.agg #[.int .i64 ca,.int .i64 cb,.int .i64 cd,.int .i64 ce,.slice ta tn tc,.int .i64 now]] #[],.func (.func 33) #[.agg #[.int .i64 ca,.int .i64 cb,.int .i64 cd,.int .i64 ce,.slice ta tn tc,.int .i64 now]] #[],.func (.func 34) #[.agg #[.int .i64 ca,.int .i64 cb,.int .i64 cd,.int .i64 ce,.slice ta tn tc,.int .i64 now]] #[]] 76)
 replace MB:=hZq (upQ MB.out b5)
 replace LB:=hZq (upQ LB.out b5)
 replace FB:=hZq (upQ FB.out b5)
 replace RB:=hZq (upQ RB.out b5)
 replace V:=hZq (V.out.later b5)
 replace T:=hZq (Tab.later T.out b5)
 replace HB:=hZq (below2Z HB.out b5)
 clear b5
 generalize xw6.alloc (.cells #[.func (.func 32) #[.agg #[.int .i64 ca,.int .i64 cb,.int .i64 cd,.int .i64 ce,.slice ta tn tc,.int .i64 now]] #[],.func (.func 33) #[.agg #[.int .i64 ca,.int .i64 cb,.int .i64 cd,.int .i64 ce,.slice ta tn tc,.int .i64 now]] #[],.func (.func 34) #[.agg #[.int .i64 ca,.int .i64 cb,.int .i64 cd,.int .i64 ce,.slice ta tn tc,.int .i64 now]] #[]] 76)=w6 at MB LB FB RB V T HB ⊢
 go_loopw [21] (fun i wr => (i=.int .i64 0∧Hid (Below w6.heap.size w6 wr))∨(i=.int .i64 1∧Hid (Below w6.heap.size w6 wr))∨(i=.int .i64 2∧Hid (Below w6.heap.size w6 wr))) (fun i _ => 4 - (intOf i).toNat)
 case atStart => exact .inl ⟨rfl,Below.refl _ _⟩
 case round =>
  obtain⟨rfl,HN⟩ | ⟨rfl,HN⟩ | ⟨rfl,HN⟩:=hrel
  ·replace MB:=hZq (upQ MB.out HN.out)
   replace LB:=hZq (upQ LB.out HN.out)
   replace FB:=hZq (upQ FB.out HN.out)
   replace RB:=hZq (upQ RB.out HN.out)
   replace V:=hZq (V.out.later HN.out)
   replace T:=hZq (Tab.later T.out HN.out)
   replace HB:=hZq (below2Z HB.out HN.out)
   have LBo:=blk7 LB.out
   go_wp2_with fail
   clear LBo
   refine (lsnap_no V.out T.out seq tok at' dg ca cb cd ce now la).mono ?_
   rintro e w17 ⟨rfl,b17⟩
   replace MB:=hZq (upQ MB.out b17)
   replace LB:=hZq (upQ LB.out b17)
   replace FB:=hZq (upQ FB.out b17)
   replace RB:=hZq (upQ RB.out b17)
   replace V:=hZq (V.out.later b17)
   replace T:=hZq (Tab.later T.out b17)
   replace HB:=hZq (below2Z HB.out b17)
   have HN2:=hZq (below2Z HN.out b17)
   clear b17
   have HN3:=hZq (bl_allocZ (bl_allocZ HN2.out (.cells #[.int .i64 0,.int .i64 0,.bool false,.string ⟨#[]⟩,.int .i64 0,.int .i64 0,.int .i64 0,.string ⟨#[]⟩,.int .u64 0,.slice none 0 0] 49)) (.cells #[.int .i64 seq,.slice ao n cap,.bool la,.int .i64 tok,.int .i64 at',.bool false,.int .i64 dg] 33))
   clear MB
   clear LB
   clear FB
   clear RB
   clear V
   clear T
   go_wp2_with fail
   go_roundw
   case rel => exact .inr (.inl ⟨rfl,HN3⟩)
   case measure => simp [intOf]
  ·replace MB:=hZq (upQ MB.out HN.out)
   replace LB:=hZq (upQ LB.out HN.out)
   replace FB:=hZq (upQ FB.out HN.out)
   replace RB:=hZq (upQ RB.out HN.out)
   replace V:=hZq (V.out.later HN.out)
   replace T:=hZq (Tab.later T.out HN.out)
   replace HB:=hZq (below2Z HB.out HN.out)
   have LBo:=blk7 LB.out
   go_wp2_with fail
   clear LBo
   refine (ldel_no V.out T.out seq tok at' dg ca cb cd ce now la HE.out).mono ?_
   rintro e w27 ⟨rfl,b27⟩
   replace MB:=hZq (upQ MB.out b27)
   replace LB:=hZq (upQ LB.out b27)
   replace FB:=hZq (upQ FB.out b27)
   replace RB:=hZq (upQ RB.out b27)
   replace V:=hZq (V.out.later b27)
   replace T:=hZq (Tab.later T.out b27)
   replace HB:=hZq (below2Z HB.out b27)
   have HN2:=hZq (below2Z HN.out b27)
   clear b27
   have HN3:=hZq (bl_allocZ (bl_allocZ HN2.out (.cells #[.int .i64 0,.int .i64 0,.bool false,.string ⟨#[]⟩,.int .i64 0,.int .i64 0,.int .i64 0,.string ⟨#[]⟩,.int .u64 0,.slice none 0 0] 49)) (.cells #[.int .i64 seq,.slice ao n cap,.bool la,.int .i64 tok,.int .i64 at',.bool false,.int .i64 dg] 33))
   clear MB
   clear LB
   clear FB
   clear RB
   clear V
   clear T
   go_wp2_with fail
   go_roundw
   case rel => exact .inr (.inr (⟨rfl,HN3⟩))
   case measure => simp [intOf]
  ·replace MB:=hZq (upQ MB.out HN.out)
   replace LB:=hZq (upQ LB.out HN.out)
   replace FB:=hZq (upQ FB.out HN.out)
   replace RB:=hZq (upQ RB.out HN.out)
   replace V:=hZq (V.out.later HN.out)
   replace T:=hZq (Tab.later T.out HN.out)
   replace HB:=hZq (below2Z HB.out HN.out)
   have LBo:=blk7 LB.out
   go_wp2_with fail
   clear LBo
   have hsz:=(Array.getElem?_eq_some_iff.1 RB.out).1
   refine (ldig_eqL V.out T.out seq tok at' dg ca cb cd ce now la false hn0 hn1 hd0 hd1 (Int.not_lt.2 hdue) HSH.out hlv HDS).mono ?_
   rintro e w37 ⟨rfl,b37⟩
   replace MB:=hZq (upQ MB.out b37)
   replace LB:=hZq (upQ LB.out b37)
   replace FB:=hZq (upQ FB.out b37)
   replace RB:=hZq (upQ RB.out b37)
   replace V:=hZq (V.out.later b37)
   replace T:=hZq (Tab.later T.out b37)
   replace HB:=hZq (below2Z HB.out b37)
   have hsz2:=b37.size
   clear b37
   have b38:=bl_newZ w37 (.cells #[.int .i64 2,.int .i64 0,.bool false,.string ⟨#[]⟩,.int .i64 0,.int .i64 0,.int .i64 0,.string ⟨#[]⟩,.int .u64 dsum,.slice none 0 0] 49)
   have XF:=newQ w37 (.cells #[.int .i64 2,.int .i64 0,.bool false,.string ⟨#[]⟩,.int .i64 0,.int .i64 0,.int .i64 0,.string ⟨#[]⟩,.int .u64 dsum,.slice none 0 0] 49)
   have hXF:w.heap.size≤w37.heap.size:=HB.out.size
   replace MB:=hZq (upQ MB.out b38)
   replace LB:=hZq (upQ LB.out b38)
   replace FB:=hZq (upQ FB.out b38)
   replace RB:=hZq (upQ RB.out b38)
   replace V:=hZq (V.out.later b38)
   replace T:=hZq (Tab.later T.out b38)
   replace HB:=hZq (below2Z HB.out b38)
   clear b38
   replace XF:=hZq XF
   have b39:=bl_newZ (w37.alloc (.cells #[.int .i64 2,.int .i64 0,.bool false,.string ⟨#[]⟩,.int .i64 0,.int .i64 0,.int .i64 0,.string ⟨#[]⟩,.int .u64 dsum,.slice none 0 0] 49)) (.cells #[.int .i64 seq,.slice ao n cap,.bool la,.int .i64 tok,.int .i64 at',.bool false,.int .i64 now] 33)
   have XL:=newQ (w37.alloc (.cells #[.int .i64 2,.int .i64 0,.bool false,.string ⟨#[]⟩,.int .i64 0,.int .i64 0,.int .i64 0,.string ⟨#[]⟩,.int .u64 dsum,.slice none 0 0] 49)) (.cells #[.int .i64 seq,.slice ao n cap,.bool la,.int .i64 tok,.int .i64 at',.bool false,.int .i64 now] 33)
   have hXL:w.heap.size≤(w37.alloc (.cells #[.int .i64 2,.int .i64 0,.bool false,.string ⟨#[]⟩,.int .i64 0,.int .i64 0,.int .i64 0,.string ⟨#[]⟩,.int .u64 dsum,.slice none 0 0] 49)).heap.size:=HB.out.size
   rw [World.size_alloc] at XL hXL
   replace MB:=hZq (upQ MB.out b39)
   replace LB:=hZq (upQ LB.out b39)
   replace FB:=hZq (upQ FB.out b39)
   replace RB:=hZq (upQ RB.out b39)
   replace XF:=hZq (upQ XF.out b39)
   replace V:=hZq (V.out.later b39)
   replace T:=hZq (Tab.later T.out b39)
   replace HB:=hZq (below2Z HB.out b39)
   clear b39
   replace XL:=hZq XL
   go_upto_region 7 with fail
   generalize (w37.alloc (.cells #[.int .i64 2,.int .i64 0,.bool false,.string ⟨#[]⟩,.int .i64 0,.int .i64 0,.int .i64 0,.string ⟨#[]⟩,.int .u64 dsum,.slice none 0 0] 49)).alloc (.cells #[.int .i64 seq,.slice ao n cap,.bool la,.int .i64 tok,.int .i64 at',.bool false,.int .i64 now] 33)=w40 at MB LB FB RB XF XL V T HB ⊢
   have hx0:¬ w37.heap.size=w.heap.size+1+1:=by omega
   have hx1:¬ w37.heap.size=w.heap.size+1+1+1:=by omega
   have hx2:¬ w37.heap.size+1=w.heap.size+1+1:=by omega
   have hx3:¬ w37.heap.size+1=w.heap.size+1+1+1:=by omega
   obtain⟨BS,hBS⟩ : ∃ BS:List (Nat × List Value),BS=[(w37.heap.size,[.int .i64 2,.int .i64 0,.bool false,.string ⟨#[]⟩,.int .i64 0,.int .i64 0,.int .i64 0,.string ⟨#[]⟩,.int .u64 dsum,.slice none 0 0]),(w37.heap.size+1,[.int .i64 seq,.slice ao n cap,.bool la,.int .i64 tok,.int .i64 at',.bool false,.int .i64 now])]:=⟨_,rfl⟩
   have D0:=hZq (show heldB w40 BS from by rw [hBS]; exact heldB_cons (cellsAt_block XF.out) (heldB_cons (cellsAt_block XL.out) (heldB_nil _)))
   have hL:=heldB_at (b:=w37.heap.size) (vs:=[.int .i64 2,.int .i64 0,.bool false,.string ⟨#[]⟩,.int .i64 0,.int .i64 0,.int .i64 0,.string ⟨#[]⟩,.int .u64 dsum,.slice none 0 0]) (bs:=BS) (by rw [hBS]; simp)
   have hq0:=hL 0 _ rfl
   have hq1:=hL 1 _ rfl
   have hq2:=hL 2 _ rfl
   have hq3:=hL 3 _ rfl
   have hq4:=hL 4 _ rfl
   have hq5:=hL 5 _ rfl
   have hq6:=hL 6 _ rfl
   have hq7:=hL 7 _ rfl
   have hq8:=hL 8 _ rfl
   have hq9:=hL 9 _ rfl
   clear hL
   have hL:=heldB_at (b:=w37.heap.size+1) (vs:=[.int .i64 seq,.slice ao n cap,.bool la,.int .i64 tok,.int .i64 at',.bool false,.int .i64 now]) (bs:=BS) (by rw [hBS]; simp)
   have hq10:=hL 0 _ rfl
   have hq11:=hL 1 _ rfl
   have hq12:=hL 2 _ rfl
   have hq13:=hL 3 _ rfl
   have hq14:=hL 4 _ rfl
   have hq15:=hL 5 _ rfl
   have hq16:=hL 6 _ rfl
   clear hL
   have hBN:∀ p ∈ BS,(¬ p.1=w.heap.size+1+1)∧¬ p.1=w.heap.size+1+1+1:=by rw [hBS]; intro p hp; simp only [List.mem_cons,List.not_mem_nil,or_false] at hp; rcases hp with rfl | rfl <;> (constructor <;> simp only <;> omega)
   clear hBS
   have K0:Hid (Below w40.heap.size w40 w40.drew):=hZq (Below.refl _ _).drew
   refine wp_region_held_drew (S:=(fun X => heldB X BS)) (by kernel_rfl) ?_ (fun hHeld => ?_)
   ·exact heldB_up K0.out D0.out
   generalize w40.drew=z0 at K0 hHeld ⊢
   refine tkZ 0 ?_
   refine tkZ 1 ?_
   have FB1:=upQ FB.out (K0.out)
   have RB1:=upQ RB.out (K0.out)
   obtain⟨⟨c0,c1,c2,c3,c4,c5,c6,c7,c8,c9⟩,⟨g0,g1,g2,g3,g4,g5,g6,g7,g8,g9⟩⟩:=blk10 FB1
   refine wpAnyH_ready (rs:=[2]) (by as_aux_lemma => kernel_rfl) (by simp) ?_
   refine AllReadyH.cons rfl (fun Kx hK => ?_) AllReadyH.nil
   go_simp
   clear c0 c1 c2 c3 c4 c5 c6 c7 c8 c9 g0 g1 g2 g3 g4 g5 g6 g7 g8 g9
   have FZ:=hZq (stN10_heap FB1 (.int .i64 2) (.int .i64 0) (.bool false) (.string ⟨#[]⟩) (.int .i64 0) (.int .i64 0) (.int .i64 0) (.string ⟨#[]⟩) (.int .u64 dsum) (.slice none 0 0))
   have RZ:=hZq ((stN10_far z0 (w.heap.size+1+1) (.int .i64 2) (.int .i64 0) (.bool false) (.string ⟨#[]⟩) (.int .i64 0) (.int .i64 0) (.int .i64 0) (.string ⟨#[]⟩) (.int .u64 dsum) (.slice none 0 0) (by omega:¬ w.heap.size+1+1+1=w.heap.size+1+1)).trans RB1)
   have HZ:=hZq (stN10_below (below2Z HB.out (K0.out)) (by omega:w.heap.size≤w.heap.size+1+1) (.int .i64 2) (.int .i64 0) (.bool false) (.string ⟨#[]⟩) (.int .i64 0) (.int .i64 0) (.int .i64 0) (.string ⟨#[]⟩) (.int .u64 dsum) (.slice none 0 0))
   have DZ:=hZq (heldB_far (heldB_up (K0.out) D0.out) (fun k hk => stN10_far z0 (w.heap.size+1+1) (.int .i64 2) (.int .i64 0) (.bool false) (.string ⟨#[]⟩) (.int .i64 0) (.int .i64 0) (.int .i64 0) (.string ⟨#[]⟩) (.int .u64 dsum) (.slice none 0 0) hk) (fun p hp => (hBN p hp).1))
   refine hK.out _ _ ?_ (fun hHeld2 => ?_)
   ·exact DZ.out
   clear hK Kx hHeld FB1 RB1
   have hHeld:=hHeld2
   clear hHeld2
   obtain⟨zf,hzf⟩ : ∃ X,X=stN10 z0 (w.heap.size+1+1) (.int .i64 2) (.int .i64 0) (.bool false) (.string ⟨#[]⟩) (.int .i64 0) (.int .i64 0) (.int .i64 0) (.string ⟨#[]⟩) (.int .u64 dsum) (.slice none 0 0):=⟨_,rfl⟩
   rw [← hzf] at FZ RZ HZ DZ
   unfold stN10 at hzf
   simp only [← hzf] at hHeld ⊢
   clear hzf
   obtain⟨⟨c0,c1,c2,c3,c4,c5,c6⟩,⟨g0,g1,g2,g3,g4,g5,g6⟩⟩:=blk7 RZ.out
   refine wpAnyH_ready (rs:=[3]) (by as_aux_lemma => kernel_rfl) (by simp) ?_
   refine AllReadyH.cons rfl (fun Kx hK => ?_) AllReadyH.nil
   go_simp
   clear c0 c1 c2 c3 c4 c5 c6 g0 g1 g2 g3 g4 g5 g6
   have RZ2:=hZq (stN7_heap RZ.out (.int .i64 seq) (.slice ao n cap) (.bool la) (.int .i64 tok) (.int .i64 at') (.bool false) (.int .i64 now))
   have FZ2:=hZq ((stN7_far zf (w.heap.size+1+1+1) (.int .i64 seq) (.slice ao n cap) (.bool la) (.int .i64 tok) (.int .i64 at') (.bool false) (.int .i64 now) (by omega:¬ w.heap.size+1+1=w.heap.size+1+1+1)).trans FZ.out)
   have HZ2:=hZq (stN7_below HZ.out (by omega:w.heap.size≤w.heap.size+1+1+1) (.int .i64 seq) (.slice ao n cap) (.bool la) (.int .i64 tok) (.int .i64 at') (.bool false) (.int .i64 now))
   have DZ2:=hZq (heldB_far DZ.out (fun k hk => stN7_far zf (w.heap.size+1+1+1) (.int .i64 seq) (.slice ao n cap) (.bool la) (.int .i64 tok) (.int .i64 at') (.bool false) (.int .i64 now) hk) (fun p hp => (hBN p hp).2))
   refine hK.out _ _ ?_ (fun hHeld2 => ?_)
   ·exact DZ2.out
   clear hK Kx hHeld RZ FZ DZ HZ
   have hHeld:=hHeld2
   clear hHeld2
   obtain⟨zr,hzr⟩ : ∃ X,X=stN7 zf (w.heap.size+1+1+1) (.int .i64 seq) (.slice ao n cap) (.bool la) (.int .i64 tok) (.int .i64 at') (.bool false) (.int .i64 now):=⟨_,rfl⟩
   rw [← hzr] at FZ2 RZ2 HZ2 DZ2
   unfold stN7 at hzr
   simp only [← hzr] at hHeld ⊢
   clear hzr
   refine tkZ 4 ?_
   refine wpAnyH_done (by kernel_rfl) ?_ _
   obtain⟨⟨u0,u1,u2,u3,u4,u5,u6,u7,u8,u9⟩,-⟩:=blk10 FZ2.out
   obtain⟨⟨y0,y1,y2,y3,y4,y5,y6⟩,-⟩:=blk7 RZ2.out
   go_wp2_with fail
   refine bodyPost_ret (v:=.tuple #[.agg #[.int .i64 2,.int .i64 0,.bool false,.string ⟨#[]⟩,.int .i64 0,.int .i64 0,.int .i64 0,.string ⟨#[]⟩,.int .u64 dsum,.slice none 0 0],.agg #[.int .i64 seq,.slice ao n cap,.bool la,.int .i64 tok,.int .i64 at',.bool false,.int .i64 now],.bool true]) (by simp [results,Try.results19,go_sem,u0,u1,u2,u3,u4,u5,u6,u7,u8,u9,y0,y1,y2,y3,y4,y5,y6]) rfl ?_
   exact⟨rfl,HZ2.out⟩

theorem lnext_n {w:World} {v vt:Value} {l:List Chg} {view:List Row} (hv:Chgs w v l) (ht:Tab w vt view) (seq tok at' dg ca cb cd ce now:Int) (la:Bool) (he:l=[]) (hn0:0≤now) (hn1:now≤1099511627776) (hd0:0≤dg) (hd1:dg≤1099511627776) (hdue:now - dg < ce) :
  Calls Try.prog 19 #[.agg #[.int .i64 ca,.int .i64 cb,.int .i64 cd,.int .i64 ce,vt,.int .i64 now],.agg #[.int .i64 seq,v,.bool la,.int .i64 tok,.int .i64 at',.bool false,.int .i64 dg]] w fun e w' => e=.returned (.tuple #[.agg #[.int .i64 0,.int .i64 0,.bool false,.string ⟨#[]⟩,.int .i64 0,.int .i64 0,.int .i64 0,.string ⟨#[]⟩,.int .u64 0,.slice none 0 0],.agg #[.int .i64 seq,v,.bool la,.int .i64 tok,.int .i64 at',.bool false,.int .i64 dg],.bool false])∧Below w.heap.size w w':=by
 obtain⟨n,hn⟩ : ∃ n,l.length=n:=⟨_,rfl⟩
 obtain⟨ao,cap,rfl⟩:=chgs_shape hv hn
 obtain⟨ta,tc,rfl,-⟩:=ht.open'
 obtain⟨tn,htn⟩ : ∃ n,view.length=n:=⟨_,rfl⟩
 rw [htn]
 rw [htn] at ht
 have HE:=hZq he
 clear he
 obtain⟨MB,LB,FB,RB,HB⟩:=ent4 w (.cells #[.int .i64 ca,.int .i64 cb,.int .i64 cd,.int .i64 ce,.slice ta tn tc,.int .i64 now] 65) (.cells #[.int .i64 seq,.slice ao n cap,.bool la,.int .i64 tok,.int .i64 at',.bool false,.int .i64 dg] 33) (.cells #[.int .i64 0,.int .i64 0,.bool false,.string ⟨#[]⟩,.int .i64 0,.int .i64 0,.int .i64 0,.string ⟨#[]⟩,.int .u64 0,.slice none 0 0] 49) (.cells #[.int .i64 0,.slice none 0 0,.bool false,.int .i64 0,.int .i64 0,.bool false,.int .i64 0] 33)
 have V:=hZq (hv.later HB.out)
 have T:=hZq (ht.later HB.out)
 clear hv ht hn
 have MBo:=blk6 MB.out
 have LBo:=blk7 LB.out
 have FBo:=blk10 FB.out
 have RBo:=blk7 RB.out
 have hix0:=@lix0
 have hix1:=@lix1
 have hix2:=@lix2
 go_enter Try.func19,Try.ntmps19
 go_wp2_with fail
 clear MBo LBo FBo RBo
 generalize (((w.alloc (.cells #[.int .i64 ca,.int .i64 cb,.int .i64 cd,.int .i64 ce,.slice ta tn tc,.int .i64 now] 65)).alloc (.cells #[.int .i64 seq,.slice ao n cap,.bool la,.int .i64 tok,.int .i64 at',.bool false,.int .i64 dg] 33)).alloc (.cells #[.int .i64 0,.int .i64 0,.bool false,.string ⟨#[]⟩,.int .i64 0,.int .i64 0,.int .i64 0,.string ⟨#[]⟩,.int .u64 0,.slice none 0 0] 49)).alloc (.cells #[.int .i64 0,.slice none 0 0,.bool false,.int .i64 0,.int .i64 0,.bool false,.int .i64 0] 33)=xw6 at MB LB FB RB V T HB ⊢
 have b5:=bl_newZ xw6 (.cells #[.func (.func 32) #[.agg #[.int .i64 ca,.int .i64 cb,.int .i64 cd,.int .i64 ce,.slice ta tn tc,.int .i64 now]] #[],.func (.func 33) #[.agg #[.int .i64 ca,.int .i64 cb,.int .i64 cd,.int .i64 ce,.slice ta tn tc,.int .i64 now]] #[],.func (.func 34) #[.agg #[.int .i64 ca,.int .i64 cb,.int .i64 cd,.int .i64 ce,.slice ta tn tc,.int .i64 now]] #[]] 76)
 replace MB:=hZq (upQ MB.out b5)
 replace LB:=hZq (upQ LB.out b5)
 replace FB:=hZq (upQ FB.out b5)
 replace RB:=hZq (upQ RB.out b5)
 replace V:=hZq (V.out.later b5)
 replace T:=hZq (Tab.later T.out b5)
 replace HB:=hZq (below2Z HB.out b5)
 clear b5
 generalize xw6.alloc (.cells #[.func (.func 32) #[.agg #[.int .i64 ca,.int .i64 cb,.int .i64 cd,.int .i64 ce,.slice ta tn tc,.int .i64 now]] #[],.func (.func 33) #[.agg #[.int .i64 ca,.int .i64 cb,.int .i64 cd,.int .i64 ce,.slice ta tn tc,.int .i64 now]] #[],.func (.func 34) #[.agg #[.int .i64 ca,.int .i64 cb,.int .i64 cd,.int .i64 ce,.slice ta tn tc,.int .i64 now]] #[]] 76)=w6 at MB LB FB RB V T HB ⊢
 go_loopw [21] (fun i wr => (i=.int .i64 0∧Hid (Below w6.heap.size w6 wr))∨(i=.int .i64 1∧Hid (Below w6.heap.size w6 wr))∨(i=.int .i64 2∧Hid (Below w6.heap.size w6 wr))∨(i=.int .i64 3∧Hid (Below w6.heap.size w6 wr))) (fun i _ => 4 - (intOf i).toNat)
 case atStart => exact .inl ⟨rfl,Below.refl _ _⟩
 case round =>
  obtain⟨rfl,HN⟩ | ⟨rfl,HN⟩ | ⟨rfl,HN⟩ | ⟨rfl,HN⟩:=hrel
  ·replace MB:=hZq (upQ MB.out HN.out)
   replace LB:=hZq (upQ LB.out HN.out)
   replace FB:=hZq (upQ FB.out HN.out)
   replace RB:=hZq (upQ RB.out HN.out)
   replace V:=hZq (V.out.later HN.out)
   replace T:=hZq (Tab.later T.out HN.out)
   replace HB:=hZq (below2Z HB.out HN.out)
   have LBo:=blk7 LB.out
   go_wp2_with fail
   clear LBo
   refine (lsnap_no V.out T.out seq tok at' dg ca cb cd ce now la).mono ?_
   rintro e w17 ⟨rfl,b17⟩
   replace MB:=hZq (upQ MB.out b17)
   replace LB:=hZq (upQ LB.out b17)
   replace FB:=hZq (upQ FB.out b17)
   replace RB:=hZq (upQ RB.out b17)
   replace V:=hZq (V.out.later b17)
   replace T:=hZq (Tab.later T.out b17)
   replace HB:=hZq (below2Z HB.out b17)
   have HN2:=hZq (below2Z HN.out b17)
   clear b17
   have HN3:=hZq (bl_allocZ (bl_allocZ HN2.out (.cells #[.int .i64 0,.int .i64 0,.bool false,.string ⟨#[]⟩,.int .i64 0,.int .i64 0,.int .i64 0,.string ⟨#[]⟩,.int .u64 0,.slice none 0 0] 49)) (.cells #[.int .i64 seq,.slice ao n cap,.bool la,.int .i64 tok,.int .i64 at',.bool false,.int .i64 dg] 33))
   clear MB
   clear LB
   clear FB
   clear RB
   clear V
   clear T
   go_wp2_with fail
   go_roundw
   case rel => exact .inr (.inl ⟨rfl,HN3⟩)
   case measure => simp [intOf]
  ·replace MB:=hZq (upQ MB.out HN.out)
   replace LB:=hZq (upQ LB.out HN.out)
   replace FB:=hZq (upQ FB.out HN.out)
   replace RB:=hZq (upQ RB.out HN.out)
   replace V:=hZq (V.out.later HN.out)
   replace T:=hZq (Tab.later T.out HN.out)
   replace HB:=hZq (below2Z HB.out HN.out)
   have LBo:=blk7 LB.out
   go_wp2_with fail
   clear LBo
   refine (ldel_no V.out T.out seq tok at' dg ca cb cd ce now la HE.out).mono ?_
   rintro e w27 ⟨rfl,b27⟩
   replace MB:=hZq (upQ MB.out b27)
   replace LB:=hZq (upQ LB.out b27)
   replace FB:=hZq (upQ FB.out b27)
   replace RB:=hZq (upQ RB.out b27)
   replace V:=hZq (V.out.later b27)
   replace T:=hZq (Tab.later T.out b27)
   replace HB:=hZq (below2Z HB.out b27)
   have HN2:=hZq (below2Z HN.out b27)
   clear b27
   have HN3:=hZq (bl_allocZ (bl_allocZ HN2.out (.cells #[.int .i64 0,.int .i64 0,.bool false,.string ⟨#[]⟩,.int .i64 0,.int .i64 0,.int .i64 0,.string ⟨#[]⟩,.int .u64 0,.slice none 0 0] 49)) (.cells #[.int .i64 seq,.slice ao n cap,.bool la,.int .i64 tok,.int .i64 at',.bool false,.int .i64 dg] 33))
   clear MB
   clear LB
   clear FB
   clear RB
   clear V
   clear T
   go_wp2_with fail
   go_roundw
   case rel => exact .inr (.inr (.inl ⟨rfl,HN3⟩))
   case measure => simp [intOf]
  ·replace MB:=hZq (upQ MB.out HN.out)
   replace LB:=hZq (upQ LB.out HN.out)
   replace FB:=hZq (upQ FB.out HN.out)
   replace RB:=hZq (upQ RB.out HN.out)
   replace V:=hZq (V.out.later HN.out)
   replace T:=hZq (Tab.later T.out HN.out)
   replace HB:=hZq (below2Z HB.out HN.out)
   have LBo:=blk7 LB.out
   go_wp2_with fail
   clear LBo
   refine (ldig_no V.out T.out seq tok at' dg ca cb cd ce now la false hn0 hn1 hd0 hd1 hdue).mono ?_
   rintro e w37 ⟨rfl,b37⟩
   replace MB:=hZq (upQ MB.out b37)
   replace LB:=hZq (upQ LB.out b37)
   replace FB:=hZq (upQ FB.out b37)
   replace RB:=hZq (upQ RB.out b37)
   replace V:=hZq (V.out.later b37)
   replace T:=hZq (Tab.later T.out b37)
   replace HB:=hZq (below2Z HB.out b37)
   have HN2:=hZq (below2Z HN.out b37)
   clear b37
   have HN3:=hZq (bl_allocZ (bl_allocZ HN2.out (.cells #[.int .i64 0,.int .i64 0,.bool false,.string ⟨#[]⟩,.int .i64 0,.int .i64 0,.int .i64 0,.string ⟨#[]⟩,.int .u64 0,.slice none 0 0] 49)) (.cells #[.int .i64 seq,.slice ao n cap,.bool la,.int .i64 tok,.int .i64 at',.bool false,.int .i64 dg] 33))
   clear MB
   clear LB
   clear FB
   clear RB
   clear V
   clear T
   go_wp2_with fail
   go_roundw
   case rel => exact .inr (.inr (.inr (⟨rfl,HN3⟩)))
   case measure => simp [intOf]
  ·replace MB:=hZq (upQ MB.out HN.out)
   replace LB:=hZq (upQ LB.out HN.out)
   replace FB:=hZq (upQ FB.out HN.out)
   replace RB:=hZq (upQ RB.out HN.out)
   replace V:=hZq (V.out.later HN.out)
   replace T:=hZq (Tab.later T.out HN.out)
   replace HB:=hZq (below2Z HB.out HN.out)
   have LBo:=blk7 LB.out
   go_upto_region 9 with fail
   clear LBo
   obtain⟨BS,hBS⟩ : ∃ BS:List (Nat × List Value),BS=[(w.heap.size+1,[.int .i64 seq,.slice ao n cap,.bool la,.int .i64 tok,.int .i64 at',.bool false,.int .i64 dg])]:=⟨_,rfl⟩
   have D0:=hZq (show heldB wr BS from by rw [hBS]; exact heldB_cons (cellsAt_block LB.out) (heldB_nil _))
   have hL:=heldB_at (b:=w.heap.size+1) (vs:=[.int .i64 seq,.slice ao n cap,.bool la,.int .i64 tok,.int .i64 at',.bool false,.int .i64 dg]) (bs:=BS) (by rw [hBS]; simp)
   have hq0:=hL 0 _ rfl
   have hq1:=hL 1 _ rfl
   have hq2:=hL 2 _ rfl
   have hq3:=hL 3 _ rfl
   have hq4:=hL 4 _ rfl
   have hq5:=hL 5 _ rfl
   have hq6:=hL 6 _ rfl
   clear hL
   have hBN:∀ p ∈ BS,(¬ p.1=w.heap.size+1+1)∧¬ p.1=w.heap.size+1+1+1:=by rw [hBS]; intro p hp; simp only [List.mem_cons,List.not_mem_nil,or_false] at hp; subst hp; constructor <;> simp only <;> omega
   clear hBS
   have K0:Hid (Below wr.heap.size wr wr.drew):=hZq (Below.refl _ _).drew
   refine wp_region_held_drew (S:=(fun X => heldB X BS)) (by kernel_rfl) ?_ (fun hHeld => ?_)
   ·exact heldB_up K0.out D0.out
   generalize wr.drew=z0 at K0 hHeld ⊢
   refine tkZ 0 ?_
   refine tkZ 1 ?_
   have FB1:=upQ FB.out (K0.out)
   have RB1:=upQ RB.out (K0.out)
   obtain⟨⟨c0,c1,c2,c3,c4,c5,c6,c7,c8,c9⟩,⟨g0,g1,g2,g3,g4,g5,g6,g7,g8,g9⟩⟩:=blk10 FB1
   refine wpAnyH_ready (rs:=[2]) (by as_aux_lemma => kernel_rfl) (by simp) ?_
   refine AllReadyH.cons rfl (fun Kx hK => ?_) AllReadyH.nil
   go_simp
   clear c0 c1 c2 c3 c4 c5 c6 c7 c8 c9 g0 g1 g2 g3 g4 g5 g6 g7 g8 g9
   have FZ:=hZq (stN10_heap FB1 (.int .i64 0) (.int .i64 0) (.bool false) (.string ⟨#[]⟩) (.int .i64 0) (.int .i64 0) (.int .i64 0) (.string ⟨#[]⟩) (.int .u64 0) (.slice none 0 0))
   have RZ:=hZq ((stN10_far z0 (w.heap.size+1+1) (.int .i64 0) (.int .i64 0) (.bool false) (.string ⟨#[]⟩) (.int .i64 0) (.int .i64 0) (.int .i64 0) (.string ⟨#[]⟩) (.int .u64 0) (.slice none 0 0) (by omega:¬ w.heap.size+1+1+1=w.heap.size+1+1)).trans RB1)
   have HZ:=hZq (stN10_below (below2Z HB.out (K0.out)) (by omega:w.heap.size≤w.heap.size+1+1) (.int .i64 0) (.int .i64 0) (.bool false) (.string ⟨#[]⟩) (.int .i64 0) (.int .i64 0) (.int .i64 0) (.string ⟨#[]⟩) (.int .u64 0) (.slice none 0 0))
   have DZ:=hZq (heldB_far (heldB_up (K0.out) D0.out) (fun k hk => stN10_far z0 (w.heap.size+1+1) (.int .i64 0) (.int .i64 0) (.bool false) (.string ⟨#[]⟩) (.int .i64 0) (.int .i64 0) (.int .i64 0) (.string ⟨#[]⟩) (.int .u64 0) (.slice none 0 0) hk) (fun p hp => (hBN p hp).1))
   refine hK.out _ _ ?_ (fun hHeld2 => ?_)
   ·exact DZ.out
   clear hK Kx hHeld FB1 RB1
   have hHeld:=hHeld2
   clear hHeld2
   obtain⟨zf,hzf⟩ : ∃ X,X=stN10 z0 (w.heap.size+1+1) (.int .i64 0) (.int .i64 0) (.bool false) (.string ⟨#[]⟩) (.int .i64 0) (.int .i64 0) (.int .i64 0) (.string ⟨#[]⟩) (.int .u64 0) (.slice none 0 0):=⟨_,rfl⟩
   rw [← hzf] at FZ RZ HZ DZ
   unfold stN10 at hzf
   simp only [← hzf] at hHeld ⊢
   clear hzf
   obtain⟨⟨c0,c1,c2,c3,c4,c5,c6⟩,⟨g0,g1,g2,g3,g4,g5,g6⟩⟩:=blk7 RZ.out
   refine wpAnyH_ready (rs:=[3]) (by as_aux_lemma => kernel_rfl) (by simp) ?_
   refine AllReadyH.cons rfl (fun Kx hK => ?_) AllReadyH.nil
   go_simp
   clear c0 c1 c2 c3 c4 c5 c6 g0 g1 g2 g3 g4 g5 g6
   have RZ2:=hZq (stN7_heap RZ.out (.int .i64 seq) (.slice ao n cap) (.bool la) (.int .i64 tok) (.int .i64 at') (.bool false) (.int .i64 dg))
   have FZ2:=hZq ((stN7_far zf (w.heap.size+1+1+1) (.int .i64 seq) (.slice ao n cap) (.bool la) (.int .i64 tok) (.int .i64 at') (.bool false) (.int .i64 dg) (by omega:¬ w.heap.size+1+1=w.heap.size+1+1+1)).trans FZ.out)
   have HZ2:=hZq (stN7_below HZ.out (by omega:w.heap.size≤w.heap.size+1+1+1) (.int .i64 seq) (.slice ao n cap) (.bool la) (.int .i64 tok) (.int .i64 at') (.bool false) (.int .i64 dg))
   have DZ2:=hZq (heldB_far DZ.out (fun k hk => stN7_far zf (w.heap.size+1+1+1) (.int .i64 seq) (.slice ao n cap) (.bool la) (.int .i64 tok) (.int .i64 at') (.bool false) (.int .i64 dg) hk) (fun p hp => (hBN p hp).2))
   refine hK.out _ _ ?_ (fun hHeld2 => ?_)
   ·exact DZ2.out
   clear hK Kx hHeld RZ FZ DZ HZ
   have hHeld:=hHeld2
   clear hHeld2
   obtain⟨zr,hzr⟩ : ∃ X,X=stN7 zf (w.heap.size+1+1+1) (.int .i64 seq) (.slice ao n cap) (.bool la) (.int .i64 tok) (.int .i64 at') (.bool false) (.int .i64 dg):=⟨_,rfl⟩
   rw [← hzr] at FZ2 RZ2 HZ2 DZ2
   unfold stN7 at hzr
   simp only [← hzr] at hHeld ⊢
   clear hzr
   refine tkZ 4 ?_
   refine wpAnyH_done (by kernel_rfl) ?_ _
   obtain⟨⟨u0,u1,u2,u3,u4,u5,u6,u7,u8,u9⟩,-⟩:=blk10 FZ2.out
   obtain⟨⟨y0,y1,y2,y3,y4,y5,y6⟩,-⟩:=blk7 RZ2.out
   go_wp2_with fail
   refine bodyPost_ret (v:=.tuple #[.agg #[.int .i64 0,.int .i64 0,.bool false,.string ⟨#[]⟩,.int .i64 0,.int .i64 0,.int .i64 0,.string ⟨#[]⟩,.int .u64 0,.slice none 0 0],.agg #[.int .i64 seq,.slice ao n cap,.bool la,.int .i64 tok,.int .i64 at',.bool false,.int .i64 dg],.bool false]) (by simp [results,Try.results19,go_sem,u0,u1,u2,u3,u4,u5,u6,u7,u8,u9,y0,y1,y2,y3,y4,y5,y6]) rfl ?_
   exact⟨rfl,HZ2.out⟩
end Go.Proofs.Ytfocooajnignbaa
