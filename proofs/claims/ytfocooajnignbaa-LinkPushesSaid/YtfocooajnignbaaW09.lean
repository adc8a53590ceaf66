/-
 TEXTS OF THE PROOF, one behind the other: LnkTell, LinkPureB, LnkKeep.
-/
import Derived.Test.YtfocooajnignbaaW05
import Derived.Test.YtfocooajnignbaaW08
import Derived.Test.YtfocooajnignbaaW04
import Derived.Test.YtfocooajnignbaaW03
import Derived.Test.YtfocooajnignbaaW06

set_option maxHeartbeats 12800000
set_option maxRecDepth 100000

namespace Go.Proofs.Ytfocooajnignbaa
section
open Go.RowKit

set_option linter.unusedSimpArgs false

theorem heldB_far {X W:World} {bs:List (Nat × List Value)} {B:Nat} (h:heldB X bs) (hfar:∀ k,¬ k=B→W.heap[k]?=X.heap[k]?) (hn:∀ p ∈ bs,¬ p.1=B):heldB W bs:=fun p hp j u hu =>
 (World.cell?_of_block (hfar p.1 (hn p hp))).trans (h p hp j u hu)

theorem dsum_eqL {w:World} {v:Value} {t:List Row} (hv:Tab w v t) (hs:Short t) (_hl:t.length≤1000) {n:Nat} (h:Hid (diSum t=n)) :
  Calls Try.prog 51 #[v] w fun e w' => e=.returned (.int .u64 n)∧Below w.heap.size w w':=by
 have k:=disum_any hv hs
 rw [h.out] at k
 exact k

theorem tab_shapeL {w:World} {v:Value} {l:List Row} {n:Nat} (h:Tab w v l) (hn:l.length=n):∃ a c,v=.slice a n c:=by
 obtain⟨a,c,e,_⟩:=h.open'
 exact⟨a,c,by rw [← hn]; exact e⟩

theorem ownR_stN10 {w:World} {base:Nat} {v:Value} {t:List Row} (h:OwnR w base v t) {B:Nat} (hB:B < base) (a0 a1 a2 a3 a4 a5 a6 a7 a8 a9:Value):OwnR (stN10 w B a0 a1 a2 a3 a4 a5 a6 a7 a8 a9) base v t:=by
 refine ⟨h.1,?_⟩
 rcases h.2 with h' | ⟨g,cap,cur,h1,h2,h3,h4⟩
 ·exact .inl h'
 ·exact .inr ⟨g,cap,cur,h1,h2,(stN10_far w B a0 a1 a2 a3 a4 a5 a6 a7 a8 a9 (by omega)).trans h3,h4⟩

theorem ownQ_shapeL {w:World} {base:Nat} {v:Value} {l:List Chg} {n:Nat} (h:OwnQ w base v l) (hn:l.length=n):∃ a c,v=.slice a n c:=by
 obtain⟨a,c,e⟩:=ownQ_shape h
 exact⟨a,c,by rw [← hn]; exact e⟩

theorem ownQ_far {w W:World} {base:Nat} {v:Value} {l:List Chg} (h:OwnQ w base v l) (hb:∀ g,base≤g→W.heap[g]?=w.heap[g]?):OwnQ W base v l:=by
 refine ⟨h.1,?_⟩
 rcases h.2 with h' | ⟨g,cap,cur,h1,h2,h3,h4⟩
 ·exact .inl h'
 ·exact .inr ⟨g,cap,cur,h1,h2,(hb g h2).trans h3,h4⟩

theorem ownR_stN7 {w:World} {base:Nat} {v:Value} {t:List Row} (h:OwnR w base v t) {B:Nat} (hB:B < base) (a0 a1 a2 a3 a4 a5 a6:Value):OwnR (stN7 w B a0 a1 a2 a3 a4 a5 a6) base v t:=by
 refine ⟨h.1,?_⟩
 rcases h.2 with h' | ⟨g,cap,cur,h1,h2,h3,h4⟩
 ·exact .inl h'
 ·exact .inr ⟨g,cap,cur,h1,h2,(stN7_far w B a0 a1 a2 a3 a4 a5 a6 (by omega)).trans h3,h4⟩

theorem lsnap_no {w:World} {v vt:Value} {l:List Chg} {view:List Row} (hv:Chgs w v l) (ht:Tab w vt view) (seq tok at' dg ca cb cd ce now:Int) (la:Bool)  :
  Calls Try.prog 32 #[.agg #[.int .i64 ca,.int .i64 cb,.int .i64 cd,.int .i64 ce,vt,.int .i64 now],.agg #[.int .i64 seq,v,.bool la,.int .i64 tok,.int .i64 at',.bool false,.int .i64 dg]] w fun e w' => e=.returned (.tuple #[.agg #[.int .i64 0,.int .i64 0,.bool false,.string ⟨#[]⟩,.int .i64 0,.int .i64 0,.int .i64 0,.string ⟨#[]⟩,.int .u64 0,.slice none 0 0],.agg #[.int .i64 seq,v,.bool la,.int .i64 tok,.int .i64 at',.bool false,.int .i64 dg],.bool false])∧Below w.heap.size w w':=by
 obtain⟨n,hn⟩ : ∃ n,l.length=n:=⟨_,rfl⟩
 obtain⟨ao,cap,rfl⟩:=chgs_shape hv hn
 obtain⟨ta,tc,rfl,-⟩:=ht.open'
 obtain⟨tn,htn⟩ : ∃ n,view.length=n:=⟨_,rfl⟩
 rw [htn]
 rw [htn] at ht
 obtain⟨MB,LB,FB,RB,HB⟩:=ent4 w (.cells #[.int .i64 ca,.int .i64 cb,.int .i64 cd,.int .i64 ce,.slice ta tn tc,.int .i64 now] 65) (.cells #[.int .i64 seq,.slice ao n cap,.bool la,.int .i64 tok,.int .i64 at',.bool false,.int .i64 dg] 33) (.cells #[.int .i64 0,.int .i64 0,.bool false,.string ⟨#[]⟩,.int .i64 0,.int .i64 0,.int .i64 0,.string ⟨#[]⟩,.int .u64 0,.slice none 0 0] 49) (.cells #[.int .i64 0,.slice none 0 0,.bool false,.int .i64 0,.int .i64 0,.bool false,.int .i64 0] 33)
 have V:=hZq (hv.later HB.out)
 have T:=hZq (ht.later HB.out)
 clear hv ht hn
 have MBo:=blk6 MB.out
 have LBo:=blk7 LB.out
 have FBo:=blk10 FB.out
 have RBo:=blk7 RB.out
 go_enter Try.func32,Try.ntmps32
 go_upto_region 2 with fail
 clear MBo LBo FBo RBo
 generalize (((w.alloc (.cells #[.int .i64 ca,.int .i64 cb,.int .i64 cd,.int .i64 ce,.slice ta tn tc,.int .i64 now] 65)).alloc (.cells #[.int .i64 seq,.slice ao n cap,.bool la,.int .i64 tok,.int .i64 at',.bool false,.int .i64 dg] 33)).alloc (.cells #[.int .i64 0,.int .i64 0,.bool false,.string ⟨#[]⟩,.int .i64 0,.int .i64 0,.int .i64 0,.string ⟨#[]⟩,.int .u64 0,.slice none 0 0] 49)).alloc (.cells #[.int .i64 0,.slice none 0 0,.bool false,.int .i64 0,.int .i64 0,.bool false,.int .i64 0] 33)=w5 at MB LB FB RB V T HB ⊢
 obtain⟨BS,hBS⟩ : ∃ BS:List (Nat × List Value),BS=[(w.heap.size+1,[.int .i64 seq,.slice ao n cap,.bool la,.int .i64 tok,.int .i64 at',.bool false,.int .i64 dg])]:=⟨_,rfl⟩
 have D0:=hZq (show heldB w5 BS from by rw [hBS]; exact heldB_cons (cellsAt_block LB.out) (heldB_nil _))
 have hL:=heldB_at (b:=w.heap.size+1) (vs:=[.int .i64 seq,.slice ao n cap,.bool la,.int .i64 tok,.int .i64 at',.bool false,.int .i64 dg]) (bs:=BS) (by rw [hBS]; simp)
 have hq0:=hL 0 _ rfl
 have hq1:=hL 1 _ rfl
 have hq2:=hL 2 _ rfl
 have hq3:=hL 3 _ rfl
 have hq4:=hL 4 _ rfl
 have hq5:=hL 5 _ rfl
 have hq6:=hL 6 _ rfl
 clear hL
 have hBN:∀ p ∈ BS,(¬ p.1=w.heap.size+1+1)∧¬ p.1=w.heap.size+1+1+1:=by rw [hBS]; intro p hp; simp only [List.mem_cons,List.not_mem_nil,or_false] at hp; subst hp; constructor <;> simp only <;> omega
 clear hBS
 have K0:Hid (Below w5.heap.size w5 w5.drew):=hZq (Below.refl _ _).drew
 refine wp_region_held_drew (S:=(fun X => heldB X BS)) (by kernel_rfl) ?_ (fun hHeld => ?_)
 ·exact heldB_up K0.out D0.out
 generalize w5.drew=z0 at K0 hHeld ⊢
 refine tkZ 0 ?_
 refine tkZ 1 ?_
 have FB1:=upQ FB.out (K0.out)
 have RB1:=upQ RB.out (K0.out)
 obtain⟨⟨c0,c1,c2,c3,c4,c5,c6,c7,c8,c9⟩,⟨g0,g1,g2,g3,g4,g5,g6,g7,g8,g9⟩⟩:=blk10 FB1
 refine wpAnyH_ready (rs:=[2]) (by as_aux_lemma => kernel_rfl) (by simp) ?_
 refine AllReadyH.cons rfl (fun Kx hK => ?_) AllReadyH.nil
 go_simp
 clear c0 c1 c2 c3 c4 c5 c6 c7 c8 c9 g0 g1 g2 g3 g4 g5 g6 g7 g8 g9
 have FZ:=hZq (stN10_heap FB1 (.int .i64 0) (.int .i64 0) (.bool false) (.string ⟨#[]⟩) (.int .i64 0) (.int .i64 0) (.int .i64 0) (.string ⟨#[]⟩) (.int .u64 0) (.slice none 0 0))
 have RZ:=hZq ((stN10_far z0 (w.heap.size+1+1) (.int .i64 0) (.int .i64 0) (.bool false) (.string ⟨#[]⟩) (.int .i64 0) (.int .i64 0) (.int .i64 0) (.string ⟨#[]⟩) (.int .u64 0) (.slice none 0 0) (by omega:¬ w.heap.size+1+1+1=w.heap.size+1+1)).trans RB1)
 have HZ:=hZq (stN10_below (below2Z HB.out (K0.out)) (by omega:w.heap.size≤w.heap.size+1+1) (.int .i64 0) (.int .i64 0) (.bool false) (.string ⟨#[]⟩) (.int .i64 0) (.int .i64 0) (.int .i64 0) (.string ⟨#[]⟩) (.int .u64 0) (.slice none 0 0))
 have DZ:=hZq (heldB_far (heldB_up (K0.out) D0.out) (fun k hk => stN10_far z0 (w.heap.size+1+1) (.int .i64 0) (.int .i64 0) (.bool false) (.string ⟨#[]⟩) (.int .i64 0) (.int .i64 0) (.int .i64 0) (.string ⟨#[]⟩) (.int .u64 0) (.slice none 0 0) hk) (fun p hp => (hBN p hp).1))
 refine hK.out _ _ ?_ (fun hHeld2 => ?_)
 ·exact DZ.out
 clear hK Kx hHeld FB1 RB1
 have hHeld:=hHeld2
 clear hHeld2
 obtain⟨zf,hzf⟩ : ∃ X,X=stN10 z0 (w.heap.size+1+1) (.int .i64 0) (.int .i64 0) (.bool false) (.string ⟨#[]⟩) (.int .i64 0) (.int .i64 0) (.int .i64 0) (.string ⟨#[]⟩) (.int .u64 0) (.slice none 0 0):=⟨_,rfl⟩
 rw [← hzf] at FZ RZ HZ DZ
 unfold stN10 at hzf
 simp only [← hzf] at hHeld ⊢
 clear hzf
 obtain⟨⟨c0,c1,c2,c3,c4,c5,c6⟩,⟨g0,g1,g2,g3,g4,g5,g6⟩⟩:=blk7 RZ.out
 refine wpAnyH_ready (rs:=[3]) (by as_aux_lemma => kernel_rfl) (by simp) ?_
 refine AllReadyH.cons rfl (fun Kx hK => ?_) AllReadyH.nil
 go_simp
 clear c0 c1 c2 c3 c4 c5 c6 g0 g1 g2 g3 g4 g5 g6
 have RZ2:=hZq (stN7_heap RZ.out (.int .i64 seq) (.slice ao n cap) (.bool la) (.int .i64 tok) (.int .i64 at') (.bool false) (.int .i64 dg))
 have FZ2:=hZq ((stN7_far zf (w.heap.size+1+1+1) (.int .i64 seq) (.slice ao n cap) (.bool la) (.int .i64 tok) (.int .i64 at') (.bool false) (.int .i64 dg) (by omega:¬ w.heap.size+1+1=w.heap.size+1+1+1)).trans FZ.out)
 have HZ2:=hZq (stN7_below HZ.out (by omega:w.heap.size≤w.heap.size+1+1+1) (.int .i64 seq) (.slice ao n cap) (.bool la) (.int .i64 tok) (.int .i64 at') (.bool false) (.int .i64 dg))
 have DZ2:=hZq (heldB_far DZ.out (fun k hk => stN7_far zf (w.heap.size+1+1+1) (.int .i64 seq) (.slice ao n cap) (.bool la) (.int .i64 tok) (.int .i64 at') (.bool false) (.int .i64 dg) hk) (fun p hp => (hBN p hp).2))
 refine hK.out _ _ ?_ (fun hHeld2 => ?_)
 ·exact DZ2.out
 clear hK Kx hHeld RZ FZ DZ HZ
 have hHeld:=hHeld2
 clear hHeld2
 obtain⟨zr,hzr⟩ : ∃ X,X=stN7 zf (w.heap.size+1+1+1) (.int .i64 seq) (.slice ao n cap) (.bool la) (.int .i64 tok) (.int .i64 at') (.bool false) (.int .i64 dg):=⟨_,rfl⟩
 rw [← hzr] at FZ2 RZ2 HZ2 DZ2
 unfold stN7 at hzr
 simp only [← hzr] at hHeld ⊢
 clear hzr
 refine tkZ 4 ?_
 refine wpAnyH_done (by kernel_rfl) ?_ _
 obtain⟨⟨u0,u1,u2,u3,u4,u5,u6,u7,u8,u9⟩,-⟩:=blk10 FZ2.out
 obtain⟨⟨y0,y1,y2,y3,y4,y5,y6⟩,-⟩:=blk7 RZ2.out
 go_wp2_with fail
 refine bodyPost_ret (v:=.tuple #[.agg #[.int .i64 0,.int .i64 0,.bool false,.string ⟨#[]⟩,.int .i64 0,.int .i64 0,.int .i64 0,.string ⟨#[]⟩,.int .u64 0,.slice none 0 0],.agg #[.int .i64 seq,.slice ao n cap,.bool la,.int .i64 tok,.int .i64 at',.bool false,.int .i64 dg],.bool false]) (by simp [results,Try.results32,go_sem,u0,u1,u2,u3,u4,u5,u6,u7,u8,u9,y0,y1,y2,y3,y4,y5,y6]) rfl ?_
 exact⟨rfl,HZ2.out⟩

theorem lsnap_yes {w:World} {v vt:Value} {l:List Chg} {view:List Row} (hv:Chgs w v l) (ht:Tab w vt view) (seq tok at' dg ca cb cd ce now:Int) (la:Bool) (htl:view.length≤4294967) :
  Calls Try.prog 32 #[.agg #[.int .i64 ca,.int .i64 cb,.int .i64 cd,.int .i64 ce,vt,.int .i64 now],.agg #[.int .i64 seq,v,.bool la,.int .i64 tok,.int .i64 at',.bool true,.int .i64 dg]] w fun e w' => ∃ u,e=.returned (.tuple #[.agg #[.int .i64 3,.int .i64 0,.bool false,.string ⟨#[]⟩,.int .i64 0,.int .i64 0,.int .i64 0,.string ⟨#[]⟩,.int .u64 0,u],.agg #[.int .i64 seq,.slice none 0 0,.bool false,.int .i64 tok,.int .i64 at',.bool false,.int .i64 now],.bool true])∧OwnR w' w.heap.size u view∧Below w.heap.size w w':=by
 obtain⟨n,hn⟩ : ∃ n,l.length=n:=⟨_,rfl⟩
 obtain⟨ao,cap,rfl⟩:=chgs_shape hv hn
 obtain⟨ta,tc,rfl,-⟩:=ht.open'
 obtain⟨tn,htn⟩ : ∃ n,view.length=n:=⟨_,rfl⟩
 rw [htn]
 rw [htn] at ht
 obtain⟨MB,LB,FB,RB,HB⟩:=ent4 w (.cells #[.int .i64 ca,.int .i64 cb,.int .i64 cd,.int .i64 ce,.slice ta tn tc,.int .i64 now] 65) (.cells #[.int .i64 seq,.slice ao n cap,.bool la,.int .i64 tok,.int .i64 at',.bool true,.int .i64 dg] 33) (.cells #[.int .i64 0,.int .i64 0,.bool false,.string ⟨#[]⟩,.int .i64 0,.int .i64 0,.int .i64 0,.string ⟨#[]⟩,.int .u64 0,.slice none 0 0] 49) (.cells #[.int .i64 0,.slice none 0 0,.bool false,.int .i64 0,.int .i64 0,.bool false,.int .i64 0] 33)
 have V:=hZq (hv.later HB.out)
 have T0:=hZq ht
 have T:=hZq (ht.later HB.out)
 clear hv ht hn
 have MBo:=blk6 MB.out
 have LBo:=blk7 LB.out
 have FBo:=blk10 FB.out
 have RBo:=blk7 RB.out
 go_enter Try.func32,Try.ntmps32
 go_upto_region 3 with fail
 clear MBo LBo FBo RBo
 generalize (((w.alloc (.cells #[.int .i64 ca,.int .i64 cb,.int .i64 cd,.int .i64 ce,.slice ta tn tc,.int .i64 now] 65)).alloc (.cells #[.int .i64 seq,.slice ao n cap,.bool la,.int .i64 tok,.int .i64 at',.bool true,.int .i64 dg] 33)).alloc (.cells #[.int .i64 0,.int .i64 0,.bool false,.string ⟨#[]⟩,.int .i64 0,.int .i64 0,.int .i64 0,.string ⟨#[]⟩,.int .u64 0,.slice none 0 0] 49)).alloc (.cells #[.int .i64 0,.slice none 0 0,.bool false,.int .i64 0,.int .i64 0,.bool false,.int .i64 0] 33)=w5 at MB LB FB RB V T HB ⊢
 have MBo:=blk6 MB.out
 have LBo:=blk7 LB.out
 go_region
 clear MBo LBo
 have LB2:Hid ((((((w5.setCell ⟨w.heap.size+1,5,none⟩ (.bool false)).setCell ⟨w.heap.size+1,1,none⟩ (.slice none 0 0)).setCell ⟨w.heap.size+1,2,none⟩ (.bool false)).setCell ⟨w.heap.size+1,6,none⟩ (.int .i64 now)).drew).heap[w.heap.size+1]?=some (.cells #[.int .i64 seq,.slice none 0 0,.bool false,.int .i64 tok,.int .i64 at',.bool false,.int .i64 now] 33 (0,0))):=hZq (heap_setCell_same _ (w.heap.size+1) 6 _ _ (.int .i64 now) (heap_setCell_same _ (w.heap.size+1) 2 _ _ (.bool false) (heap_setCell_same _ (w.heap.size+1) 1 _ _ (.slice none 0 0) (heap_setCell_same w5 (w.heap.size+1) 5 _ _ (.bool false) LB.out))))
 have hne:¬ w.heap.size=w.heap.size+1:=by omega
 have MB2:Hid ((((((w5.setCell ⟨w.heap.size+1,5,none⟩ (.bool false)).setCell ⟨w.heap.size+1,1,none⟩ (.slice none 0 0)).setCell ⟨w.heap.size+1,2,none⟩ (.bool false)).setCell ⟨w.heap.size+1,6,none⟩ (.int .i64 now)).drew).heap[w.heap.size]?=some (.cells #[.int .i64 ca,.int .i64 cb,.int .i64 cd,.int .i64 ce,.slice ta tn tc,.int .i64 now] 65 (0,0))):=hZq (((Below.heap_setCell _ _ _ (w.heap.size) hne).trans ((Below.heap_setCell _ _ _ (w.heap.size) hne).trans ((Below.heap_setCell _ _ _ (w.heap.size) hne).trans (Below.heap_setCell _ _ _ (w.heap.size) hne)))).trans MB.out)
 clear hne
 have hne:¬ w.heap.size+1+1=w.heap.size+1:=by omega
 have FB2:Hid ((((((w5.setCell ⟨w.heap.size+1,5,none⟩ (.bool false)).setCell ⟨w.heap.size+1,1,none⟩ (.slice none 0 0)).setCell ⟨w.heap.size+1,2,none⟩ (.bool false)).setCell ⟨w.heap.size+1,6,none⟩ (.int .i64 now)).drew).heap[w.heap.size+1+1]?=some (.cells #[.int .i64 0,.int .i64 0,.bool false,.string ⟨#[]⟩,.int .i64 0,.int .i64 0,.int .i64 0,.string ⟨#[]⟩,.int .u64 0,.slice none 0 0] 49 (0,0))):=hZq (((Below.heap_setCell _ _ _ (w.heap.size+1+1) hne).trans ((Below.heap_setCell _ _ _ (w.heap.size+1+1) hne).trans ((Below.heap_setCell _ _ _ (w.heap.size+1+1) hne).trans (Below.heap_setCell _ _ _ (w.heap.size+1+1) hne)))).trans FB.out)
 clear hne
 have hne:¬ w.heap.size+1+1+1=w.heap.size+1:=by omega
 have RB2:Hid ((((((w5.setCell ⟨w.heap.size+1,5,none⟩ (.bool false)).setCell ⟨w.heap.size+1,1,none⟩ (.slice none 0 0)).setCell ⟨w.heap.size+1,2,none⟩ (.bool false)).setCell ⟨w.heap.size+1,6,none⟩ (.int .i64 now)).drew).heap[w.heap.size+1+1+1]?=some (.cells #[.int .i64 0,.slice none 0 0,.bool false,.int .i64 0,.int .i64 0,.bool false,.int .i64 0] 33 (0,0))):=hZq (((Below.heap_setCell _ _ _ (w.heap.size+1+1+1) hne).trans ((Below.heap_setCell _ _ _ (w.heap.size+1+1+1) hne).trans ((Below.heap_setCell _ _ _ (w.heap.size+1+1+1) hne).trans (Below.heap_setCell _ _ _ (w.heap.size+1+1+1) hne)))).trans RB.out)
 clear hne
 have hle:w.heap.size≤w.heap.size+1:=Nat.le_succ _
 have HB2:Hid (Below w.heap.size w (((((w5.setCell ⟨w.heap.size+1,5,none⟩ (.bool false)).setCell ⟨w.heap.size+1,1,none⟩ (.slice none 0 0)).setCell ⟨w.heap.size+1,2,none⟩ (.bool false)).setCell ⟨w.heap.size+1,6,none⟩ (.int .i64 now)).drew)):=hZq ((((HB.out.setCell hle _).setCell hle _).setCell hle _).setCell hle _).drew
 have TW:=hZq (T0.out.later HB2.out)
 clear MB LB FB RB HB T V hle
 generalize ((((w5.setCell ⟨w.heap.size+1,5,none⟩ (.bool false)).setCell ⟨w.heap.size+1,1,none⟩ (.slice none 0 0)).setCell ⟨w.heap.size+1,2,none⟩ (.bool false)).setCell ⟨w.heap.size+1,6,none⟩ (.int .i64 now)).drew=w9 at LB2 MB2 FB2 RB2 HB2 TW ⊢
 have MB:=MB2
 clear MB2
 have LB:=LB2
 clear LB2
 have FB:=FB2
 clear FB2
 have RB:=RB2
 clear RB2
 have HB:=HB2
 clear HB2
 have T:=TW
 clear TW
 go_upto_region 4 with fail
 obtain⟨BS,hBS⟩ : ∃ BS:List (Nat × List Value),BS=[(w.heap.size,[.int .i64 ca,.int .i64 cb,.int .i64 cd,.int .i64 ce,.slice ta tn tc,.int .i64 now]),(w.heap.size+1,[.int .i64 seq,.slice none 0 0,.bool false,.int .i64 tok,.int .i64 at',.bool false,.int .i64 now])]:=⟨_,rfl⟩
 have D0:=hZq (show heldB w9 BS from by rw [hBS]; exact heldB_cons (cellsAt_block MB.out) (heldB_cons (cellsAt_block LB.out) (heldB_nil _)))
 have hL:=heldB_at (b:=w.heap.size) (vs:=[.int .i64 ca,.int .i64 cb,.int .i64 cd,.int .i64 ce,.slice ta tn tc,.int .i64 now]) (bs:=BS) (by rw [hBS]; simp)
 have hq0:=hL 0 _ rfl
 have hq1:=hL 1 _ rfl
 have hq2:=hL 2 _ rfl
 have hq3:=hL 3 _ rfl
 have hq4:=hL 4 _ rfl
 have hq5:=hL 5 _ rfl
 clear hL
 have hL:=heldB_at (b:=w.heap.size+1) (vs:=[.int .i64 seq,.slice none 0 0,.bool false,.int .i64 tok,.int .i64 at',.bool false,.int .i64 now]) (bs:=BS) (by rw [hBS]; simp)
 have hq6:=hL 0 _ rfl
 have hq7:=hL 1 _ rfl
 have hq8:=hL 2 _ rfl
 have hq9:=hL 3 _ rfl
 have hq10:=hL 4 _ rfl
 have hq11:=hL 5 _ rfl
 have hq12:=hL 6 _ rfl
 clear hL
 have hBN:∀ p ∈ BS,(¬ p.1=w.heap.size+1+1)∧¬ p.1=w.heap.size+1+1+1:=by rw [hBS]; intro p hp; simp only [List.mem_cons,List.not_mem_nil,or_false] at hp; rcases hp with rfl | rfl <;> (constructor <;> simp only <;> omega)
 clear hBS
 have K0:Hid (Below w9.heap.size w9 w9.drew):=hZq (Below.refl _ _).drew
 refine wp_region_held_drew (S:=(fun X => heldB X BS)) (by kernel_rfl) ?_ (fun hHeld => ?_)
 ·exact heldB_up K0.out D0.out
 generalize w9.drew=z0 at K0 hHeld ⊢
 refine tkZ 0 ?_
 refine tkZ 1 ?_
 refine tkZ 4 ?_
 refine wpAnyH_ready (rs:=[2]) (by as_aux_lemma => kernel_rfl) (by simp) ?_
 refine AllReadyH.cons rfl (fun Kx hK => ?_) AllReadyH.nil
 go_simp
 refine (clone_any (T.out.later K0.out) htl).mono ?_
 rintro e z1 ⟨u,rfl,hu,bz1⟩
 have K1:=hZq (below2Z K0.out bz1)
 have D1:=hZq (heldB_up K1.out D0.out)
 obtain⟨ua,uc,rfl⟩:=tab_shapeL hu.tab htn
 have U:=hZq hu
 clear hu
 clear bz1
 go_wp2_with fail
 refine hK.out _ _ ?_ (fun hHeld2 => ?_)
 ·exact D1.out
 clear hK Kx hHeld
 have hHeld:=hHeld2
 clear hHeld2
 try simp only [Act.put,List.setIfInBounds_toArray,List.set_cons_zero,List.set_cons_succ]
 refine tkZ 3 ?_
 have FB1:=upQ FB.out (K1.out)
 have RB1:=upQ RB.out (K1.out)
 obtain⟨⟨c0,c1,c2,c3,c4,c5,c6,c7,c8,c9⟩,⟨g0,g1,g2,g3,g4,g5,g6,g7,g8,g9⟩⟩:=blk10 FB1
 refine wpAnyH_ready (rs:=[5]) (by as_aux_lemma => kernel_rfl) (by simp) ?_
 refine AllReadyH.cons rfl (fun Kx hK => ?_) AllReadyH.nil
 go_simp
 clear c0 c1 c2 c3 c4 c5 c6 c7 c8 c9 g0 g1 g2 g3 g4 g5 g6 g7 g8 g9
 have FZ:=hZq (stN10_heap FB1 (.int .i64 3) (.int .i64 0) (.bool false) (.string ⟨#[]⟩) (.int .i64 0) (.int .i64 0) (.int .i64 0) (.string ⟨#[]⟩) (.int .u64 0) (.slice ua tn uc))
 have RZ:=hZq ((stN10_far z1 (w.heap.size+1+1) (.int .i64 3) (.int .i64 0) (.bool false) (.string ⟨#[]⟩) (.int .i64 0) (.int .i64 0) (.int .i64 0) (.string ⟨#[]⟩) (.int .u64 0) (.slice ua tn uc) (by omega:¬ w.heap.size+1+1+1=w.heap.size+1+1)).trans RB1)
 have HZ:=hZq (stN10_below (below2Z HB.out (K1.out)) (by omega:w.heap.size≤w.heap.size+1+1) (.int .i64 3) (.int .i64 0) (.bool false) (.string ⟨#[]⟩) (.int .i64 0) (.int .i64 0) (.int .i64 0) (.string ⟨#[]⟩) (.int .u64 0) (.slice ua tn uc))
 have DZ:=hZq (heldB_far (heldB_up (K1.out) D0.out) (fun k hk => stN10_far z1 (w.heap.size+1+1) (.int .i64 3) (.int .i64 0) (.bool false) (.string ⟨#[]⟩) (.int .i64 0) (.int .i64 0) (.int .i64 0) (.string ⟨#[]⟩) (.int .u64 0) (.slice ua tn uc) hk) (fun p hp => (hBN p hp).1))
 replace U:=hZq (ownR_stN10 U.out (by have:=(Array.getElem?_eq_some_iff.1 FB.out).1; have:=(K0.out).size; omega:w.heap.size+1+1 < _) (.int .i64 3) (.int .i64 0) (.bool false) (.string ⟨#[]⟩) (.int .i64 0) (.int .i64 0) (.int .i64 0) (.string ⟨#[]⟩) (.int .u64 0) (.slice ua tn uc))
 refine hK.out _ _ ?_ (fun hHeld2 => ?_)
 ·exact DZ.out
 clear hK Kx hHeld FB1 RB1
 have hHeld:=hHeld2
 clear hHeld2
 obtain⟨zf,hzf⟩ : ∃ X,X=stN10 z1 (w.heap.size+1+1) (.int .i64 3) (.int .i64 0) (.bool false) (.string ⟨#[]⟩) (.int .i64 0) (.int .i64 0) (.int .i64 0) (.string ⟨#[]⟩) (.int .u64 0) (.slice ua tn uc):=⟨_,rfl⟩
 rw [← hzf] at FZ RZ HZ DZ U
 unfold stN10 at hzf
 simp only [← hzf] at hHeld ⊢
 clear hzf
 obtain⟨⟨c0,c1,c2,c3,c4,c5,c6⟩,⟨g0,g1,g2,g3,g4,g5,g6⟩⟩:=blk7 RZ.out
 refine wpAnyH_ready (rs:=[6]) (by as_aux_lemma => kernel_rfl) (by simp) ?_
 refine AllReadyH.cons rfl (fun Kx hK => ?_) AllReadyH.nil
 go_simp
 clear c0 c1 c2 c3 c4 c5 c6 g0 g1 g2 g3 g4 g5 g6
 have RZ2:=hZq (stN7_heap RZ.out (.int .i64 seq) (.slice none 0 0) (.bool false) (.int .i64 tok) (.int .i64 at') (.bool false) (.int .i64 now))
 have FZ2:=hZq ((stN7_far zf (w.heap.size+1+1+1) (.int .i64 seq) (.slice none 0 0) (.bool false) (.int .i64 tok) (.int .i64 at') (.bool false) (.int .i64 now) (by omega:¬ w.heap.size+1+1=w.heap.size+1+1+1)).trans FZ.out)
 have HZ2:=hZq (stN7_below HZ.out (by omega:w.heap.size≤w.heap.size+1+1+1) (.int .i64 seq) (.slice none 0 0) (.bool false) (.int .i64 tok) (.int .i64 at') (.bool false) (.int .i64 now))
 have DZ2:=hZq (heldB_far DZ.out (fun k hk => stN7_far zf (w.heap.size+1+1+1) (.int .i64 seq) (.slice none 0 0) (.bool false) (.int .i64 tok) (.int .i64 at') (.bool false) (.int .i64 now) hk) (fun p hp => (hBN p hp).2))
 replace U:=hZq (ownR_stN7 U.out (by have:=(Array.getElem?_eq_some_iff.1 RB.out).1; have:=(K0.out).size; omega:w.heap.size+1+1+1 < _) (.int .i64 seq) (.slice none 0 0) (.bool false) (.int .i64 tok) (.int .i64 at') (.bool false) (.int .i64 now))
 refine hK.out _ _ ?_ (fun hHeld2 => ?_)
 ·exact DZ2.out
 clear hK Kx hHeld RZ FZ DZ HZ
 have hHeld:=hHeld2
 clear hHeld2
 obtain⟨zr,hzr⟩ : ∃ X,X=stN7 zf (w.heap.size+1+1+1) (.int .i64 seq) (.slice none 0 0) (.bool false) (.int .i64 tok) (.int .i64 at') (.bool false) (.int .i64 now):=⟨_,rfl⟩
 rw [← hzr] at FZ2 RZ2 HZ2 DZ2 U
 unfold stN7 at hzr
 simp only [← hzr] at hHeld ⊢
 clear hzr
 refine tkZ 7 ?_
 refine wpAnyH_done (by kernel_rfl) ?_ _
 obtain⟨⟨u0,u1,u2,u3,u4,u5,u6,u7,u8,u9⟩,-⟩:=blk10 FZ2.out
 obtain⟨⟨y0,y1,y2,y3,y4,y5,y6⟩,-⟩:=blk7 RZ2.out
 go_wp2_with fail
 refine bodyPost_ret (v:=.tuple #[.agg #[.int .i64 3,.int .i64 0,.bool false,.string ⟨#[]⟩,.int .i64 0,.int .i64 0,.int .i64 0,.string ⟨#[]⟩,.int .u64 0,.slice ua tn uc],.agg #[.int .i64 seq,.slice none 0 0,.bool false,.int .i64 tok,.int .i64 at',.bool false,.int .i64 now],.bool true]) (by simp [results,Try.results32,go_sem,u0,u1,u2,u3,u4,u5,u6,u7,u8,u9,y0,y1,y2,y3,y4,y5,y6]) rfl ?_
 exact⟨_,rfl,ownR_low U.out (Nat.le_trans HB.out.size (K0.out).size),HZ2.out⟩

theorem ldig_no {w:World} {v vt:Value} {l:List Chg} {view:List Row} (hv:Chgs w v l) (ht:Tab w vt view) (seq tok at' dg ca cb cd ce now:Int) (la sn:Bool) (hn0:0≤now) (hn1:now≤1099511627776) (hd0:0≤dg) (hd1:dg≤1099511627776) (hd:now - dg < ce) :
  Calls Try.prog 34 #[.agg #[.int .i64 ca,.int .i64 cb,.int .i64 cd,.int .i64 ce,vt,.int .i64 now],.agg #[.int .i64 seq,v,.bool la,.int .i64 tok,.int .i64 at',.bool sn,.int .i64 dg]] w fun e w' => e=.returned (.tuple #[.agg #[.int .i64 0,.int .i64 0,.bool false,.string ⟨#[]⟩,.int .i64 0,.int .i64 0,.int .i64 0,.string ⟨#[]⟩,.int .u64 0,.slice none 0 0],.agg #[.int .i64 seq,v,.bool la,.int .i64 tok,.int .i64 at',.bool sn,.int .i64 dg],.bool false])∧Below w.heap.size w w':=by
 obtain⟨n,hn⟩ : ∃ n,l.length=n:=⟨_,rfl⟩
 obtain⟨ao,cap,rfl⟩:=chgs_shape hv hn
 obtain⟨ta,tc,rfl,-⟩:=ht.open'
 obtain⟨tn,htn⟩ : ∃ n,view.length=n:=⟨_,rfl⟩
 rw [htn]
 rw [htn] at ht
 have t1:decide (now - dg < ce)=true:=decide_eq_true hd
 clear hd
 obtain⟨MB,LB,FB,RB,HB⟩:=ent4 w (.cells #[.int .i64 ca,.int .i64 cb,.int .i64 cd,.int .i64 ce,.slice ta tn tc,.int .i64 now] 65) (.cells #[.int .i64 seq,.slice ao n cap,.bool la,.int .i64 tok,.int .i64 at',.bool sn,.int .i64 dg] 33) (.cells #[.int .i64 0,.int .i64 0,.bool false,.string ⟨#[]⟩,.int .i64 0,.int .i64 0,.int .i64 0,.string ⟨#[]⟩,.int .u64 0,.slice none 0 0] 49) (.cells #[.int .i64 0,.slice none 0 0,.bool false,.int .i64 0,.int .i64 0,.bool false,.int .i64 0] 33)
 have V:=hZq (hv.later HB.out)
 have T:=hZq (ht.later HB.out)
 clear hv ht hn
 have MBo:=blk6 MB.out
 have LBo:=blk7 LB.out
 have FBo:=blk10 FB.out
 have RBo:=blk7 RB.out
 go_enter Try.func34,Try.ntmps34
 go_upto_region 2 with fail
 clear MBo LBo FBo RBo
 generalize (((w.alloc (.cells #[.int .i64 ca,.int .i64 cb,.int .i64 cd,.int .i64 ce,.slice ta tn tc,.int .i64 now] 65)).alloc (.cells #[.int .i64 seq,.slice ao n cap,.bool la,.int .i64 tok,.int .i64 at',.bool sn,.int .i64 dg] 33)).alloc (.cells #[.int .i64 0,.int .i64 0,.bool false,.string ⟨#[]⟩,.int .i64 0,.int .i64 0,.int .i64 0,.string ⟨#[]⟩,.int .u64 0,.slice none 0 0] 49)).alloc (.cells #[.int .i64 0,.slice none 0 0,.bool false,.int .i64 0,.int .i64 0,.bool false,.int .i64 0] 33)=w5 at MB LB FB RB V T HB ⊢
 obtain⟨BS,hBS⟩ : ∃ BS:List (Nat × List Value),BS=[(w.heap.size+1,[.int .i64 seq,.slice ao n cap,.bool la,.int .i64 tok,.int .i64 at',.bool sn,.int .i64 dg])]:=⟨_,rfl⟩
 have D0:=hZq (show heldB w5 BS from by rw [hBS]; exact heldB_cons (cellsAt_block LB.out) (heldB_nil _))
 have hL:=heldB_at (b:=w.heap.size+1) (vs:=[.int .i64 seq,.slice ao n cap,.bool la,.int .i64 tok,.int .i64 at',.bool sn,.int .i64 dg]) (bs:=BS) (by rw [hBS]; simp)
 have hq0:=hL 0 _ rfl
 have hq1:=hL 1 _ rfl
 have hq2:=hL 2 _ rfl
 have hq3:=hL 3 _ rfl
 have hq4:=hL 4 _ rfl
 have hq5:=hL 5 _ rfl
 have hq6:=hL 6 _ rfl
 clear hL
 have hBN:∀ p ∈ BS,(¬ p.1=w.heap.size+1+1)∧¬ p.1=w.heap.size+1+1+1:=by rw [hBS]; intro p hp; simp only [List.mem_cons,List.not_mem_nil,or_false] at hp; subst hp; constructor <;> simp only <;> omega
 clear hBS
 have K0:Hid (Below w5.heap.size w5 w5.drew):=hZq (Below.refl _ _).drew
 refine wp_region_held_drew (S:=(fun X => heldB X BS)) (by kernel_rfl) ?_ (fun hHeld => ?_)
 ·exact heldB_up K0.out D0.out
 generalize w5.drew=z0 at K0 hHeld ⊢
 refine tkZ 0 ?_
 refine tkZ 1 ?_
 have FB1:=upQ FB.out (K0.out)
 have RB1:=upQ RB.out (K0.out)
 obtain⟨⟨c0,c1,c2,c3,c4,c5,c6,c7,c8,c9⟩,⟨g0,g1,g2,g3,g4,g5,g6,g7,g8,g9⟩⟩:=blk10 FB1
 refine wpAnyH_ready (rs:=[2]) (by as_aux_lemma => kernel_rfl) (by simp) ?_
 refine AllReadyH.cons rfl (fun Kx hK => ?_) AllReadyH.nil
 go_simp
 clear c0 c1 c2 c3 c4 c5 c6 c7 c8 c9 g0 g1 g2 g3 g4 g5 g6 g7 g8 g9
 have FZ:=hZq (stN10_heap FB1 (.int .i64 0) (.int .i64 0) (.bool false) (.string ⟨#[]⟩) (.int .i64 0) (.int .i64 0) (.int .i64 0) (.string ⟨#[]⟩) (.int .u64 0) (.slice none 0 0))
 have RZ:=hZq ((stN10_far z0 (w.heap.size+1+1) (.int .i64 0) (.int .i64 0) (.bool false) (.string ⟨#[]⟩) (.int .i64 0) (.int .i64 0) (.int .i64 0) (.string ⟨#[]⟩) (.int .u64 0) (.slice none 0 0) (by omega:¬ w.heap.size+1+1+1=w.heap.size+1+1)).trans RB1)
 have HZ:=hZq (stN10_below (below2Z HB.out (K0.out)) (by omega:w.heap.size≤w.heap.size+1+1) (.int .i64 0) (.int .i64 0) (.bool false) (.string ⟨#[]⟩) (.int .i64 0) (.int .i64 0) (.int .i64 0) (.string ⟨#[]⟩) (.int .u64 0) (.slice none 0 0))
 have DZ:=hZq (heldB_far (heldB_up (K0.out) D0.out) (fun k hk => stN10_far z0 (w.heap.size+1+1) (.int .i64 0) (.int .i64 0) (.bool false) (.string ⟨#[]⟩) (.int .i64 0) (.int .i64 0) (.int .i64 0) (.string ⟨#[]⟩) (.int .u64 0) (.slice none 0 0) hk) (fun p hp => (hBN p hp).1))
 refine hK.out _ _ ?_ (fun hHeld2 => ?_)
 ·exact DZ.out
 clear hK Kx hHeld FB1 RB1
 have hHeld:=hHeld2
 clear hHeld2
 obtain⟨zf,hzf⟩ : ∃ X,X=stN10 z0 (w.heap.size+1+1) (.int .i64 0) (.int .i64 0) (.bool false) (.string ⟨#[]⟩) (.int .i64 0) (.int .i64 0) (.int .i64 0) (.string ⟨#[]⟩) (.int .u64 0) (.slice none 0 0):=⟨_,rfl⟩
 rw [← hzf] at FZ RZ HZ DZ
 unfold stN10 at hzf
 simp only [← hzf] at hHeld ⊢
 clear hzf
 obtain⟨⟨c0,c1,c2,c3,c4,c5,c6⟩,⟨g0,g1,g2,g3,g4,g5,g6⟩⟩:=blk7 RZ.out
 refine wpAnyH_ready (rs:=[3]) (by as_aux_lemma => kernel_rfl) (by simp) ?_
 refine AllReadyH.cons rfl (fun Kx hK => ?_) AllReadyH.nil
 go_simp
 clear c0 c1 c2 c3 c4 c5 c6 g0 g1 g2 g3 g4 g5 g6
 have RZ2:=hZq (stN7_heap RZ.out (.int .i64 seq) (.slice ao n cap) (.bool la) (.int .i64 tok) (.int .i64 at') (.bool sn) (.int .i64 dg))
 have FZ2:=hZq ((stN7_far zf (w.heap.size+1+1+1) (.int .i64 seq) (.slice ao n cap) (.bool la) (.int .i64 tok) (.int .i64 at') (.bool sn) (.int .i64 dg) (by omega:¬ w.heap.size+1+1=w.heap.size+1+1+1)).trans FZ.out)
 have HZ2:=hZq (stN7_below HZ.out (by omega:w.heap.size≤w.heap.size+1+1+1) (.int .i64 seq) (.slice ao n cap) (.bool la) (.int .i64 tok) (.int .i64 at') (.bool sn) (.int .i64 dg))
 have DZ2:=hZq (heldB_far DZ.out (fun k hk => stN7_far zf (w.heap.size+1+1+1) (.int .i64 seq) (.slice ao n cap) (.bool la) (.int .i64 tok) (.int .i64 at') (.bool sn) (.int .i64 dg) hk) (fun p hp => (hBN p hp).2))
 refine hK.out _ _ ?_ (fun hHeld2 => ?_)
 ·exact DZ2.out
 clear hK Kx hHeld RZ FZ DZ HZ
 have hHeld:=hHeld2
 clear hHeld2
 obtain⟨zr,hzr⟩ : ∃ X,X=stN7 zf (w.heap.size+1+1+1) (.int .i64 seq) (.slice ao n cap) (.bool la) (.int .i64 tok) (.int .i64 at') (.bool sn) (.int .i64 dg):=⟨_,rfl⟩
 rw [← hzr] at FZ2 RZ2 HZ2 DZ2
 unfold stN7 at hzr
 simp only [← hzr] at hHeld ⊢
 clear hzr
 refine tkZ 4 ?_
 refine wpAnyH_done (by kernel_rfl) ?_ _
 obtain⟨⟨u0,u1,u2,u3,u4,u5,u6,u7,u8,u9⟩,-⟩:=blk10 FZ2.out
 obtain⟨⟨y0,y1,y2,y3,y4,y5,y6⟩,-⟩:=blk7 RZ2.out
 go_wp2_with fail
 refine bodyPost_ret (v:=.tuple #[.agg #[.int .i64 0,.int .i64 0,.bool false,.string ⟨#[]⟩,.int .i64 0,.int .i64 0,.int .i64 0,.string ⟨#[]⟩,.int .u64 0,.slice none 0 0],.agg #[.int .i64 seq,.slice ao n cap,.bool la,.int .i64 tok,.int .i64 at',.bool sn,.int .i64 dg],.bool false]) (by simp [results,Try.results34,go_sem,u0,u1,u2,u3,u4,u5,u6,u7,u8,u9,y0,y1,y2,y3,y4,y5,y6]) rfl ?_
 exact⟨rfl,HZ2.out⟩

theorem ldig_yes {w:World} {v vt:Value} {l:List Chg} {view:List Row} (hv:Chgs w v l) (ht:Tab w vt view) (seq tok at' dg ca cb cd ce now:Int) (la sn:Bool) (hn0:0≤now) (hn1:now≤1099511627776) (hd0:0≤dg) (hd1:dg≤1099511627776) (hd:¬ now - dg < ce) (hsh:Short view) (hlv:view.length≤1000) :
  Calls Try.prog 34 #[.agg #[.int .i64 ca,.int .i64 cb,.int .i64 cd,.int .i64 ce,vt,.int .i64 now],.agg #[.int .i64 seq,v,.bool la,.int .i64 tok,.int .i64 at',.bool sn,.int .i64 dg]] w fun e w' => e=.returned (.tuple #[.agg #[.int .i64 2,.int .i64 0,.bool false,.string ⟨#[]⟩,.int .i64 0,.int .i64 0,.int .i64 0,.string ⟨#[]⟩,.int .u64 (diSum view),.slice none 0 0],.agg #[.int .i64 seq,v,.bool la,.int .i64 tok,.int .i64 at',.bool sn,.int .i64 now],.bool true])∧Below w.heap.size w w':=by
 obtain⟨n,hn⟩ : ∃ n,l.length=n:=⟨_,rfl⟩
 obtain⟨ao,cap,rfl⟩:=chgs_shape hv hn
 obtain⟨ta,tc,rfl,-⟩:=ht.open'
 obtain⟨tn,htn⟩ : ∃ n,view.length=n:=⟨_,rfl⟩
 rw [htn]
 rw [htn] at ht
 have t1:decide (now - dg < ce)=false:=decide_eq_false hd
 clear hd
 obtain⟨dsum,hds⟩ : ∃ s,diSum view=s:=⟨_,rfl⟩
 have HDS:=hZq hds
 rw [hds]
 clear hds
 obtain⟨MB,LB,FB,RB,HB⟩:=ent4 w (.cells #[.int .i64 ca,.int .i64 cb,.int .i64 cd,.int .i64 ce,.slice ta tn tc,.int .i64 now] 65) (.cells #[.int .i64 seq,.slice ao n cap,.bool la,.int .i64 tok,.int .i64 at',.bool sn,.int .i64 dg] 33) (.cells #[.int .i64 0,.int .i64 0,.bool false,.string ⟨#[]⟩,.int .i64 0,.int .i64 0,.int .i64 0,.string ⟨#[]⟩,.int .u64 0,.slice none 0 0] 49) (.cells #[.int .i64 0,.slice none 0 0,.bool false,.int .i64 0,.int .i64 0,.bool false,.int .i64 0] 33)
 have V0:=hZq hv
 have HSH:=hZq hsh
 have HLV:=hZq hlv
 clear hsh hlv
 have T0:=hZq ht
 have V:=hZq (hv.later HB.out)
 have T:=hZq (ht.later HB.out)
 clear hv ht hn
 have MBo:=blk6 MB.out
 have LBo:=blk7 LB.out
 have FBo:=blk10 FB.out
 have RBo:=blk7 RB.out
 go_enter Try.func34,Try.ntmps34
 go_upto_region 3 with fail
 clear MBo LBo FBo RBo
 generalize (((w.alloc (.cells #[.int .i64 ca,.int .i64 cb,.int .i64 cd,.int .i64 ce,.slice ta tn tc,.int .i64 now] 65)).alloc (.cells #[.int .i64 seq,.slice ao n cap,.bool la,.int .i64 tok,.int .i64 at',.bool sn,.int .i64 dg] 33)).alloc (.cells #[.int .i64 0,.int .i64 0,.bool false,.string ⟨#[]⟩,.int .i64 0,.int .i64 0,.int .i64 0,.string ⟨#[]⟩,.int .u64 0,.slice none 0 0] 49)).alloc (.cells #[.int .i64 0,.slice none 0 0,.bool false,.int .i64 0,.int .i64 0,.bool false,.int .i64 0] 33)=w5 at MB LB FB RB V T HB ⊢
 have MBo:=blk6 MB.out
 have LBo:=blk7 LB.out
 go_upto_region 4 with fail
 clear MBo LBo
 have LB2:=hZq (stS LB.out 6 (.int .i64 now) [.int .i64 seq,.slice ao n cap,.bool la,.int .i64 tok,.int .i64 at',.bool sn,.int .i64 now] rfl)
 have hne:¬ w.heap.size=w.heap.size+1:=by omega
 have MB2:Hid ((w5.setCell ⟨w.heap.size+1,6,none⟩ (.int .i64 now)).heap[w.heap.size]?=some (.cells #[.int .i64 ca,.int .i64 cb,.int .i64 cd,.int .i64 ce,.slice ta tn tc,.int .i64 now] 65 (0,0))):=hZq ((Below.heap_setCell _ _ _ (w.heap.size) hne).trans MB.out)
 clear hne
 have hne:¬ w.heap.size+1+1=w.heap.size+1:=by omega
 have FB2:Hid ((w5.setCell ⟨w.heap.size+1,6,none⟩ (.int .i64 now)).heap[w.heap.size+1+1]?=some (.cells #[.int .i64 0,.int .i64 0,.bool false,.string ⟨#[]⟩,.int .i64 0,.int .i64 0,.int .i64 0,.string ⟨#[]⟩,.int .u64 0,.slice none 0 0] 49 (0,0))):=hZq ((Below.heap_setCell _ _ _ (w.heap.size+1+1) hne).trans FB.out)
 clear hne
 have hne:¬ w.heap.size+1+1+1=w.heap.size+1:=by omega
 have RB2:Hid ((w5.setCell ⟨w.heap.size+1,6,none⟩ (.int .i64 now)).heap[w.heap.size+1+1+1]?=some (.cells #[.int .i64 0,.slice none 0 0,.bool false,.int .i64 0,.int .i64 0,.bool false,.int .i64 0] 33 (0,0))):=hZq ((Below.heap_setCell _ _ _ (w.heap.size+1+1+1) hne).trans RB.out)
 clear hne
 have hle:w.heap.size≤w.heap.size+1:=Nat.le_succ _
 have HB2:Hid (Below w.heap.size w (w5.setCell ⟨w.heap.size+1,6,none⟩ (.int .i64 now))):=hZq ((HB.out.setCell hle _))
 have V2:=hZq (V0.out.later HB2.out)
 have T2:=hZq (T0.out.later HB2.out)
 clear MB LB FB RB V T HB
 generalize w5.setCell ⟨w.heap.size+1,6,none⟩ (.int .i64 now)=w9 at MB2 LB2 FB2 RB2 V2 T2 HB2 ⊢
 have MB:=MB2
 clear MB2
 have LB:=LB2
 clear LB2
 have FB:=FB2
 clear FB2
 have RB:=RB2
 clear RB2
 have V:=V2
 clear V2
 have T:=T2
 clear T2
 have HB:=HB2
 clear HB2
 clear hle
 obtain⟨BS,hBS⟩ : ∃ BS:List (Nat × List Value),BS=[(w.heap.size,[.int .i64 ca,.int .i64 cb,.int .i64 cd,.int .i64 ce,.slice ta tn tc,.int .i64 now]),(w.heap.size+1,[.int .i64 seq,.slice ao n cap,.bool la,.int .i64 tok,.int .i64 at',.bool sn,.int .i64 now])]:=⟨_,rfl⟩
 have D0:=hZq (show heldB w9 BS from by rw [hBS]; exact heldB_cons (cellsAt_block MB.out) (heldB_cons (cellsAt_block LB.out) (heldB_nil _)))
 have hL:=heldB_at (b:=w.heap.size) (vs:=[.int .i64 ca,.int .i64 cb,.int .i64 cd,.int .i64 ce,.slice ta tn tc,.int .i64 now]) (bs:=BS) (by rw [hBS]; simp)
 have hq0:=hL 0 _ rfl
 have hq1:=hL 1 _ rfl
 have hq2:=hL 2 _ rfl
 have hq3:=hL 3 _ rfl
 have hq4:=hL 4 _ rfl
 have hq5:=hL 5 _ rfl
 clear hL
 have hL:=heldB_at (b:=w.heap.size+1) (vs:=[.int .i64 seq,.slice ao n cap,.bool la,.int .i64 tok,.int .i64 at',.bool sn,.int .i64 now]) (bs:=BS) (by rw [hBS]; simp)
 have hq6:=hL 0 _ rfl
 have hq7:=hL 1 _ rfl
 have hq8:=hL 2 _ rfl
 have hq9:=hL 3 _ rfl
 have hq10:=hL 4 _ rfl
 have hq11:=hL 5 _ rfl
 have hq12:=hL 6 _ rfl
 clear hL
 have hBN:∀ p ∈ BS,(¬ p.1=w.heap.size+1+1)∧¬ p.1=w.heap.size+1+1+1:=by rw [hBS]; intro p hp; simp only [List.mem_cons,List.not_mem_nil,or_false] at hp; rcases hp with rfl | rfl <;> (constructor <;> simp only <;> omega)
 clear hBS
 have K0:Hid (Below w9.heap.size w9 w9.drew):=hZq (Below.refl _ _).drew
 refine wp_region_held_drew (S:=(fun X => heldB X BS)) (by kernel_rfl) ?_ (fun hHeld => ?_)
 ·exact heldB_up K0.out D0.out
 generalize w9.drew=z0 at K0 hHeld ⊢
 refine tkZ 0 ?_
 refine tkZ 1 ?_
 refine tkZ 4 ?_
 refine wpAnyH_ready (rs:=[2]) (by as_aux_lemma => kernel_rfl) (by simp) ?_
 refine AllReadyH.cons rfl (fun Kx hK => ?_) AllReadyH.nil
 go_simp
 refine (dsum_eqL (T.out.later K0.out) HSH.out HLV.out HDS).mono ?_
 rintro e z1 ⟨rfl,bz1⟩
 have K1:=hZq (below2Z K0.out bz1)
 have D1:=hZq (heldB_up K1.out D0.out)
 clear bz1
 go_wp2_with fail
 refine hK.out _ _ ?_ (fun hHeld2 => ?_)
 ·exact D1.out
 clear hK Kx hHeld
 have hHeld:=hHeld2
 clear hHeld2
 try simp only [Act.put,List.setIfInBounds_toArray,List.set_cons_zero,List.set_cons_succ]
 refine tkZ 3 ?_
 have FB1:=upQ FB.out (K1.out)
 have RB1:=upQ RB.out (K1.out)
 obtain⟨⟨c0,c1,c2,c3,c4,c5,c6,c7,c8,c9⟩,⟨g0,g1,g2,g3,g4,g5,g6,g7,g8,g9⟩⟩:=blk10 FB1
 refine wpAnyH_ready (rs:=[5]) (by as_aux_lemma => kernel_rfl) (by simp) ?_
 refine AllReadyH.cons rfl (fun Kx hK => ?_) AllReadyH.nil
 go_simp
 clear c0 c1 c2 c3 c4 c5 c6 c7 c8 c9 g0 g1 g2 g3 g4 g5 g6 g7 g8 g9
 have FZ:=hZq (stN10_heap FB1 (.int .i64 2) (.int .i64 0) (.bool false) (.string ⟨#[]⟩) (.int .i64 0) (.int .i64 0) (.int .i64 0) (.string ⟨#[]⟩) (.int .u64 dsum) (.slice none 0 0))
 have RZ:=hZq ((stN10_far z1 (w.heap.size+1+1) (.int .i64 2) (.int .i64 0) (.bool false) (.string ⟨#[]⟩) (.int .i64 0) (.int .i64 0) (.int .i64 0) (.string ⟨#[]⟩) (.int .u64 dsum) (.slice none 0 0) (by omega:¬ w.heap.size+1+1+1=w.heap.size+1+1)).trans RB1)
 have HZ:=hZq (stN10_below (below2Z HB.out (K1.out)) (by omega:w.heap.size≤w.heap.size+1+1) (.int .i64 2) (.int .i64 0) (.bool false) (.string ⟨#[]⟩) (.int .i64 0) (.int .i64 0) (.int .i64 0) (.string ⟨#[]⟩) (.int .u64 dsum) (.slice none 0 0))
 have DZ:=hZq (heldB_far (heldB_up (K1.out) D0.out) (fun k hk => stN10_far z1 (w.heap.size+1+1) (.int .i64 2) (.int .i64 0) (.bool false) (.string ⟨#[]⟩) (.int .i64 0) (.int .i64 0) (.int .i64 0) (.string ⟨#[]⟩) (.int .u64 dsum) (.slice none 0 0) hk) (fun p hp => (hBN p hp).1))
 refine hK.out _ _ ?_ (fun hHeld2 => ?_)
 ·exact DZ.out
 clear hK Kx hHeld FB1 RB1
 have hHeld:=hHeld2
 clear hHeld2
 obtain⟨zf,hzf⟩ : ∃ X,X=stN10 z1 (w.heap.size+1+1) (.int .i64 2) (.int .i64 0) (.bool false) (.string ⟨#[]⟩) (.int .i64 0) (.int .i64 0) (.int .i64 0) (.string ⟨#[]⟩) (.int .u64 dsum) (.slice none 0 0):=⟨_,rfl⟩
 rw [← hzf] at FZ RZ HZ DZ
 unfold stN10 at hzf
 simp only [← hzf] at hHeld ⊢
 clear hzf
 obtain⟨⟨c0,c1,c2,c3,c4,c5,c6⟩,⟨g0,g1,g2,g3,g4,g5,g6⟩⟩:=blk7 RZ.out
 refine wpAnyH_ready (rs:=[6]) (by as_aux_lemma => kernel_rfl) (by simp) ?_
 refine AllReadyH.cons rfl (fun Kx hK => ?_) AllReadyH.nil
 go_simp
 clear c0 c1 c2 c3 c4 c5 c6 g0 g1 g2 g3 g4 g5 g6
 have RZ2:=hZq (stN7_heap RZ.out (.int .i64 seq) (.slice ao n cap) (.bool la) (.int .i64 tok) (.int .i64 at') (.bool sn) (.int .i64 now))
 have FZ2:=hZq ((stN7_far zf (w.heap.size+1+1+1) (.int .i64 seq) (.slice ao n cap) (.bool la) (.int .i64 tok) (.int .i64 at') (.bool sn) (.int .i64 now) (by omega:¬ w.heap.size+1+1=w.heap.size+1+1+1)).trans FZ.out)
 have HZ2:=hZq (stN7_below HZ.out (by omega:w.heap.size≤w.heap.size+1+1+1) (.int .i64 seq) (.slice ao n cap) (.bool la) (.int .i64 tok) (.int .i64 at') (.bool sn) (.int .i64 now))
 have DZ2:=hZq (heldB_far DZ.out (fun k hk => stN7_far zf (w.heap.size+1+1+1) (.int .i64 seq) (.slice ao n cap) (.bool la) (.int .i64 tok) (.int .i64 at') (.bool sn) (.int .i64 now) hk) (fun p hp => (hBN p hp).2))
 refine hK.out _ _ ?_ (fun hHeld2 => ?_)
 ·exact DZ2.out
 clear hK Kx hHeld RZ FZ DZ HZ
 have hHeld:=hHeld2
 clear hHeld2
 obtain⟨zr,hzr⟩ : ∃ X,X=stN7 zf (w.heap.size+1+1+1) (.int .i64 seq) (.slice ao n cap) (.bool la) (.int .i64 tok) (.int .i64 at') (.bool sn) (.int .i64 now):=⟨_,rfl⟩
 rw [← hzr] at FZ2 RZ2 HZ2 DZ2
 unfold stN7 at hzr
 simp only [← hzr] at hHeld ⊢
 clear hzr
 refine tkZ 7 ?_
 refine wpAnyH_done (by kernel_rfl) ?_ _
 obtain⟨⟨u0,u1,u2,u3,u4,u5,u6,u7,u8,u9⟩,-⟩:=blk10 FZ2.out
 obtain⟨⟨y0,y1,y2,y3,y4,y5,y6⟩,-⟩:=blk7 RZ2.out
 go_wp2_with fail
 refine bodyPost_ret (v:=.tuple #[.agg #[.int .i64 2,.int .i64 0,.bool false,.string ⟨#[]⟩,.int .i64 0,.int .i64 0,.int .i64 0,.string ⟨#[]⟩,.int .u64 dsum,.slice none 0 0],.agg #[.int .i64 seq,.slice ao n cap,.bool la,.int .i64 tok,.int .i64 at',.bool sn,.int .i64 now],.bool true]) (by simp [results,Try.results34,go_sem,u0,u1,u2,u3,u4,u5,u6,u7,u8,u9,y0,y1,y2,y3,y4,y5,y6]) rfl ?_
 exact⟨rfl,HZ2.out⟩

theorem ldel_no {w:World} {v vt:Value} {l:List Chg} {view:List Row} (hv:Chgs w v l) (ht:Tab w vt view) (seq tok at' dg ca cb cd ce now:Int) (la:Bool) (he:l=[]) :
  Calls Try.prog 33 #[.agg #[.int .i64 ca,.int .i64 cb,.int .i64 cd,.int .i64 ce,vt,.int .i64 now],.agg #[.int .i64 seq,v,.bool la,.int .i64 tok,.int .i64 at',.bool false,.int .i64 dg]] w fun e w' => e=.returned (.tuple #[.agg #[.int .i64 0,.int .i64 0,.bool false,.string ⟨#[]⟩,.int .i64 0,.int .i64 0,.int .i64 0,.string ⟨#[]⟩,.int .u64 0,.slice none 0 0],.agg #[.int .i64 seq,v,.bool la,.int .i64 tok,.int .i64 at',.bool false,.int .i64 dg],.bool false])∧Below w.heap.size w w':=by
 obtain⟨n,hn⟩ : ∃ n,l.length=n:=⟨_,rfl⟩
 obtain⟨ao,cap,rfl⟩:=chgs_shape hv hn
 obtain⟨ta,tc,rfl,-⟩:=ht.open'
 obtain⟨tn,htn⟩ : ∃ n,view.length=n:=⟨_,rfl⟩
 rw [htn]
 rw [htn] at ht
 subst he
 have hl:([]:List Chg).length≤1000:=by simp
 have HR:Hid (quPop ⟨[],la⟩=(⟨[],false,⟨0,0,0,[]⟩⟩,⟨[],la⟩,false)):=hZq rfl
 obtain⟨MB,LB,FB,RB,HB⟩:=ent4 w (.cells #[.int .i64 ca,.int .i64 cb,.int .i64 cd,.int .i64 ce,.slice ta tn tc,.int .i64 now] 65) (.cells #[.int .i64 seq,.slice ao n cap,.bool la,.int .i64 tok,.int .i64 at',.bool false,.int .i64 dg] 33) (.cells #[.int .i64 0,.int .i64 0,.bool false,.string ⟨#[]⟩,.int .i64 0,.int .i64 0,.int .i64 0,.string ⟨#[]⟩,.int .u64 0,.slice none 0 0] 49) (.cells #[.int .i64 0,.slice none 0 0,.bool false,.int .i64 0,.int .i64 0,.bool false,.int .i64 0] 33)
 have V:=hZq (hv.later HB.out)
 have T:=hZq (ht.later HB.out)
 clear hv ht hn
 have MBo:=blk6 MB.out
 have LBo:=blk7 LB.out
 have FBo:=blk10 FB.out
 have RBo:=blk7 RB.out
 go_enter Try.func33,Try.ntmps33
 go_wp2_with fail
 clear MBo LBo FBo RBo
 refine (qupop_any V.out hl la HR).mono ?_
 rintro e w5 ⟨u,rfl,hu,b5⟩
 replace MB:=hZq (upQ MB.out b5)
 replace LB:=hZq (upQ LB.out b5)
 replace FB:=hZq (upQ FB.out b5)
 replace RB:=hZq (upQ RB.out b5)
 replace V:=hZq (V.out.later b5)
 replace T:=hZq (Tab.later T.out b5)
 replace HB:=hZq (below2Z HB.out b5)
 obtain⟨a2,c2,rfl⟩:=chgs_shape hu (n:=0) rfl
 have U:=hZq hu
 clear hu
 clear b5
 have b6:=bl_newZ w5 (.cells #[.string ⟨#[]⟩,.bool false,.int .i64 0,.int .i64 0,.int .i64 0,.string ⟨#[]⟩] 42)
 have XB:=newQ w5 (.cells #[.string ⟨#[]⟩,.bool false,.int .i64 0,.int .i64 0,.int .i64 0,.string ⟨#[]⟩] 42)
 have hXB:w.heap.size≤w5.heap.size:=HB.out.size
 replace MB:=hZq (upQ MB.out b6)
 replace LB:=hZq (upQ LB.out b6)
 replace FB:=hZq (upQ FB.out b6)
 replace RB:=hZq (upQ RB.out b6)
 replace V:=hZq (V.out.later b6)
 replace T:=hZq (Tab.later T.out b6)
 replace U:=hZq (U.out.later b6)
 replace HB:=hZq (below2Z HB.out b6)
 clear b6
 replace XB:=hZq XB
 have b7:=bl_newZ (w5.alloc (.cells #[.string ⟨#[]⟩,.bool false,.int .i64 0,.int .i64 0,.int .i64 0,.string ⟨#[]⟩] 42)) (.cells #[.slice a2 0 c2,.bool la] 29)
 have QB:=newQ (w5.alloc (.cells #[.string ⟨#[]⟩,.bool false,.int .i64 0,.int .i64 0,.int .i64 0,.string ⟨#[]⟩] 42)) (.cells #[.slice a2 0 c2,.bool la] 29)
 have hQB:w.heap.size≤(w5.alloc (.cells #[.string ⟨#[]⟩,.bool false,.int .i64 0,.int .i64 0,.int .i64 0,.string ⟨#[]⟩] 42)).heap.size:=HB.out.size
 rw [World.size_alloc] at QB hQB
 replace MB:=hZq (upQ MB.out b7)
 replace LB:=hZq (upQ LB.out b7)
 replace FB:=hZq (upQ FB.out b7)
 replace RB:=hZq (upQ RB.out b7)
 replace XB:=hZq (upQ XB.out b7)
 replace V:=hZq (V.out.later b7)
 replace T:=hZq (Tab.later T.out b7)
 replace U:=hZq (U.out.later b7)
 replace HB:=hZq (below2Z HB.out b7)
 clear b7
 replace QB:=hZq QB
 have MBo:=blk6 MB.out
 have LBo:=blk7 LB.out
 have FBo:=blk10 FB.out
 have RBo:=blk7 RB.out
 go_upto_region 3 with fail
 clear MBo LBo FBo RBo
 generalize (w5.alloc (.cells #[.string ⟨#[]⟩,.bool false,.int .i64 0,.int .i64 0,.int .i64 0,.string ⟨#[]⟩] 42)).alloc (.cells #[.slice a2 0 c2,.bool la] 29)=w8 at MB LB FB RB XB QB V T U HB ⊢
 clear XB
 clear QB
 clear U
 obtain⟨BS,hBS⟩ : ∃ BS:List (Nat × List Value),BS=[(w.heap.size+1,[.int .i64 seq,.slice ao n cap,.bool la,.int .i64 tok,.int .i64 at',.bool false,.int .i64 dg])]:=⟨_,rfl⟩
 have D0:=hZq (show heldB w8 BS from by rw [hBS]; exact heldB_cons (cellsAt_block LB.out) (heldB_nil _))
 have hL:=heldB_at (b:=w.heap.size+1) (vs:=[.int .i64 seq,.slice ao n cap,.bool la,.int .i64 tok,.int .i64 at',.bool false,.int .i64 dg]) (bs:=BS) (by rw [hBS]; simp)
 have hq0:=hL 0 _ rfl
 have hq1:=hL 1 _ rfl
 have hq2:=hL 2 _ rfl
 have hq3:=hL 3 _ rfl
 have hq4:=hL 4 _ rfl
 have hq5:=hL 5 _ rfl
 have hq6:=hL 6 _ rfl
 clear hL
 have hBN:∀ p ∈ BS,(¬ p.1=w.heap.size+1+1)∧¬ p.1=w.heap.size+1+1+1:=by rw [hBS]; intro p hp; simp only [List.mem_cons,List.not_mem_nil,or_false] at hp; subst hp; constructor <;> simp only <;> omega
 clear hBS
 have K0:Hid (Below w8.heap.size w8 w8.drew):=hZq (Below.refl _ _).drew
 refine wp_region_held_drew (S:=(fun X => heldB X BS)) (by kernel_rfl) ?_ (fun hHeld => ?_)
 ·exact heldB_up K0.out D0.out
 generalize w8.drew=z0 at K0 hHeld ⊢
 refine tkZ 0 ?_
 refine tkZ 1 ?_
 have FB1:=upQ FB.out (K0.out)
 have RB1:=upQ RB.out (K0.out)
 obtain⟨⟨c0,c1,c2,c3,c4,c5,c6,c7,c8,c9⟩,⟨g0,g1,g2,g3,g4,g5,g6,g7,g8,g9⟩⟩:=blk10 FB1
 refine wpAnyH_ready (rs:=[2]) (by as_aux_lemma => kernel_rfl) (by simp) ?_
 refine AllReadyH.cons rfl (fun Kx hK => ?_) AllReadyH.nil
 go_simp
 clear c0 c1 c2 c3 c4 c5 c6 c7 c8 c9 g0 g1 g2 g3 g4 g5 g6 g7 g8 g9
 have FZ:=hZq (stN10_heap FB1 (.int .i64 0) (.int .i64 0) (.bool false) (.string ⟨#[]⟩) (.int .i64 0) (.int .i64 0) (.int .i64 0) (.string ⟨#[]⟩) (.int .u64 0) (.slice none 0 0))
 have RZ:=hZq ((stN10_far z0 (w.heap.size+1+1) (.int .i64 0) (.int .i64 0) (.bool false) (.string ⟨#[]⟩) (.int .i64 0) (.int .i64 0) (.int .i64 0) (.string ⟨#[]⟩) (.int .u64 0) (.slice none 0 0) (by omega:¬ w.heap.size+1+1+1=w.heap.size+1+1)).trans RB1)
 have HZ:=hZq (stN10_below (below2Z HB.out (K0.out)) (by omega:w.heap.size≤w.heap.size+1+1) (.int .i64 0) (.int .i64 0) (.bool false) (.string ⟨#[]⟩) (.int .i64 0) (.int .i64 0) (.int .i64 0) (.string ⟨#[]⟩) (.int .u64 0) (.slice none 0 0))
 have DZ:=hZq (heldB_far (heldB_up (K0.out) D0.out) (fun k hk => stN10_far z0 (w.heap.size+1+1) (.int .i64 0) (.int .i64 0) (.bool false) (.string ⟨#[]⟩) (.int .i64 0) (.int .i64 0) (.int .i64 0) (.string ⟨#[]⟩) (.int .u64 0) (.slice none 0 0) hk) (fun p hp => (hBN p hp).1))
 refine hK.out _ _ ?_ (fun hHeld2 => ?_)
 ·exact DZ.out
 clear hK Kx hHeld FB1 RB1
 have hHeld:=hHeld2
 clear hHeld2
 obtain⟨zf,hzf⟩ : ∃ X,X=stN10 z0 (w.heap.size+1+1) (.int .i64 0) (.int .i64 0) (.bool false) (.string ⟨#[]⟩) (.int .i64 0) (.int .i64 0) (.int .i64 0) (.string ⟨#[]⟩) (.int .u64 0) (.slice none 0 0):=⟨_,rfl⟩
 rw [← hzf] at FZ RZ HZ DZ
 unfold stN10 at hzf
 simp only [← hzf] at hHeld ⊢
 clear hzf
 obtain⟨⟨c0,c1,c2,c3,c4,c5,c6⟩,⟨g0,g1,g2,g3,g4,g5,g6⟩⟩:=blk7 RZ.out
 refine wpAnyH_ready (rs:=[3]) (by as_aux_lemma => kernel_rfl) (by simp) ?_
 refine AllReadyH.cons rfl (fun Kx hK => ?_) AllReadyH.nil
 go_simp
 clear c0 c1 c2 c3 c4 c5 c6 g0 g1 g2 g3 g4 g5 g6
 have RZ2:=hZq (stN7_heap RZ.out (.int .i64 seq) (.slice ao n cap) (.bool la) (.int .i64 tok) (.int .i64 at') (.bool false) (.int .i64 dg))
 have FZ2:=hZq ((stN7_far zf (w.heap.size+1+1+1) (.int .i64 seq) (.slice ao n cap) (.bool la) (.int .i64 tok) (.int .i64 at') (.bool false) (.int .i64 dg) (by omega:¬ w.heap.size+1+1=w.heap.size+1+1+1)).trans FZ.out)
 have HZ2:=hZq (stN7_below HZ.out (by omega:w.heap.size≤w.heap.size+1+1+1) (.int .i64 seq) (.slice ao n cap) (.bool la) (.int .i64 tok) (.int .i64 at') (.bool false) (.int .i64 dg))
 have DZ2:=hZq (heldB_far DZ.out (fun k hk => stN7_far zf (w.heap.size+1+1+1) (.int .i64 seq) (.slice ao n cap) (.bool la) (.int .i64 tok) (.int .i64 at') (.bool false) (.int .i64 dg) hk) (fun p hp => (hBN p hp).2))
 refine hK.out _ _ ?_ (fun hHeld2 => ?_)
 ·exact DZ2.out
 clear hK Kx hHeld RZ FZ DZ HZ
 have hHeld:=hHeld2
 clear hHeld2
 obtain⟨zr,hzr⟩ : ∃ X,X=stN7 zf (w.heap.size+1+1+1) (.int .i64 seq) (.slice ao n cap) (.bool la) (.int .i64 tok) (.int .i64 at') (.bool false) (.int .i64 dg):=⟨_,rfl⟩
 rw [← hzr] at FZ2 RZ2 HZ2 DZ2
 unfold stN7 at hzr
 simp only [← hzr] at hHeld ⊢
 clear hzr
 refine tkZ 4 ?_
 refine wpAnyH_done (by kernel_rfl) ?_ _
 obtain⟨⟨u0,u1,u2,u3,u4,u5,u6,u7,u8,u9⟩,-⟩:=blk10 FZ2.out
 obtain⟨⟨y0,y1,y2,y3,y4,y5,y6⟩,-⟩:=blk7 RZ2.out
 go_wp2_with fail
 refine bodyPost_ret (v:=.tuple #[.agg #[.int .i64 0,.int .i64 0,.bool false,.string ⟨#[]⟩,.int .i64 0,.int .i64 0,.int .i64 0,.string ⟨#[]⟩,.int .u64 0,.slice none 0 0],.agg #[.int .i64 seq,.slice ao n cap,.bool la,.int .i64 tok,.int .i64 at',.bool false,.int .i64 dg],.bool false]) (by simp [results,Try.results33,go_sem,u0,u1,u2,u3,u4,u5,u6,u7,u8,u9,y0,y1,y2,y3,y4,y5,y6]) rfl ?_
 exact⟨rfl,HZ2.out⟩

theorem ldel_yes {w:World} {v vt:Value} {l:List Chg} {view:List Row} (hv:Chgs w v l) (ht:Tab w vt view) (seq tok at' dg ca cb cd ce now:Int) (la:Bool) {r:List Chg} {xc xs:List UInt8} {xo:Bool} {xa xb xd:Int} (he:l=⟨xc,xo,⟨xa,xb,xd,xs⟩⟩ :: r) (hl:r.length < 1000) :
  Calls Try.prog 33 #[.agg #[.int .i64 ca,.int .i64 cb,.int .i64 cd,.int .i64 ce,vt,.int .i64 now],.agg #[.int .i64 seq,v,.bool la,.int .i64 tok,.int .i64 at',.bool false,.int .i64 dg]] w fun e w' => ∃ u,e=.returned (.tuple #[.agg #[.int .i64 1,.int .i64 0,.bool xo,.string ⟨xc.toArray⟩,.int .i64 xa,.int .i64 xb,.int .i64 xd,.string ⟨xs.toArray⟩,.int .u64 0,.slice none 0 0],.agg #[.int .i64 seq,u,.bool la,.int .i64 tok,.int .i64 at',.bool false,.int .i64 dg],.bool true])∧OwnQ w' w.heap.size u r∧Below w.heap.size w w':=by
 obtain⟨n,hn⟩ : ∃ n,l.length=n:=⟨_,rfl⟩
 obtain⟨ao,cap,rfl⟩:=chgs_shape hv hn
 obtain⟨ta,tc,rfl,-⟩:=ht.open'
 obtain⟨tn,htn⟩ : ∃ n,view.length=n:=⟨_,rfl⟩
 rw [htn]
 rw [htn] at ht
 subst he
 obtain⟨m,hm⟩ : ∃ m,r.length=m:=⟨_,rfl⟩
 obtain⟨MB,LB,FB,RB,HB⟩:=ent4 w (.cells #[.int .i64 ca,.int .i64 cb,.int .i64 cd,.int .i64 ce,.slice ta tn tc,.int .i64 now] 65) (.cells #[.int .i64 seq,.slice ao n cap,.bool la,.int .i64 tok,.int .i64 at',.bool false,.int .i64 dg] 33) (.cells #[.int .i64 0,.int .i64 0,.bool false,.string ⟨#[]⟩,.int .i64 0,.int .i64 0,.int .i64 0,.string ⟨#[]⟩,.int .u64 0,.slice none 0 0] 49) (.cells #[.int .i64 0,.slice none 0 0,.bool false,.int .i64 0,.int .i64 0,.bool false,.int .i64 0] 33)
 have V0:=hZq hv
 have T0:=hZq ht
 have V:=hZq (hv.later HB.out)
 have T:=hZq (ht.later HB.out)
 clear hv ht hn
 have MBo:=blk6 MB.out
 have LBo:=blk7 LB.out
 have FBo:=blk10 FB.out
 have RBo:=blk7 RB.out
 go_enter Try.func33,Try.ntmps33
 go_upto_region 1 with fail
 clear MBo LBo FBo RBo
 generalize (((w.alloc (.cells #[.int .i64 ca,.int .i64 cb,.int .i64 cd,.int .i64 ce,.slice ta tn tc,.int .i64 now] 65)).alloc (.cells #[.int .i64 seq,.slice ao n cap,.bool la,.int .i64 tok,.int .i64 at',.bool false,.int .i64 dg] 33)).alloc (.cells #[.int .i64 0,.int .i64 0,.bool false,.string ⟨#[]⟩,.int .i64 0,.int .i64 0,.int .i64 0,.string ⟨#[]⟩,.int .u64 0,.slice none 0 0] 49)).alloc (.cells #[.int .i64 0,.slice none 0 0,.bool false,.int .i64 0,.int .i64 0,.bool false,.int .i64 0] 33)=w5 at MB LB FB RB V T HB ⊢
 have hsz:=(Array.getElem?_eq_some_iff.1 RB.out).1
 have LBo:=blk7 LB.out
 go_wp2_with fail
 clear LBo
 refine (qupop_ownq V.out hl la).mono ?_
 rintro e w6 ⟨u,rfl,hu,b6⟩
 replace MB:=hZq (upQ MB.out b6)
 replace LB:=hZq (upQ LB.out b6)
 replace FB:=hZq (upQ FB.out b6)
 replace RB:=hZq (upQ RB.out b6)
 replace V:=hZq (V.out.later b6)
 replace T:=hZq (Tab.later T.out b6)
 replace HB:=hZq (below2Z HB.out b6)
 obtain⟨a2,c2,rfl⟩:=ownQ_shapeL hu hm
 have U:=hZq hu
 clear hu
 clear b6
 have b7:=bl_newZ w6 (.cells #[.string ⟨xc.toArray⟩,.bool xo,.int .i64 xa,.int .i64 xb,.int .i64 xd,.string ⟨xs.toArray⟩] 42)
 have XB:=newQ w6 (.cells #[.string ⟨xc.toArray⟩,.bool xo,.int .i64 xa,.int .i64 xb,.int .i64 xd,.string ⟨xs.toArray⟩] 42)
 have hXB:w.heap.size≤w6.heap.size:=HB.out.size
 replace MB:=hZq (upQ MB.out b7)
 replace LB:=hZq (upQ LB.out b7)
 replace FB:=hZq (upQ FB.out b7)
 replace RB:=hZq (upQ RB.out b7)
 replace V:=hZq (V.out.later b7)
 replace T:=hZq (Tab.later T.out b7)
 replace U:=hZq (OwnS.later U.out b7)
 replace HB:=hZq (below2Z HB.out b7)
 clear b7
 replace XB:=hZq XB
 have b8:=bl_newZ (w6.alloc (.cells #[.string ⟨xc.toArray⟩,.bool xo,.int .i64 xa,.int .i64 xb,.int .i64 xd,.string ⟨xs.toArray⟩] 42)) (.cells #[.slice a2 m c2,.bool la] 29)
 have QB:=newQ (w6.alloc (.cells #[.string ⟨xc.toArray⟩,.bool xo,.int .i64 xa,.int .i64 xb,.int .i64 xd,.string ⟨xs.toArray⟩] 42)) (.cells #[.slice a2 m c2,.bool la] 29)
 have hQB:w.heap.size≤(w6.alloc (.cells #[.string ⟨xc.toArray⟩,.bool xo,.int .i64 xa,.int .i64 xb,.int .i64 xd,.string ⟨xs.toArray⟩] 42)).heap.size:=HB.out.size
 rw [World.size_alloc] at QB hQB
 replace MB:=hZq (upQ MB.out b8)
 replace LB:=hZq (upQ LB.out b8)
 replace FB:=hZq (upQ FB.out b8)
 replace RB:=hZq (upQ RB.out b8)
 replace XB:=hZq (upQ XB.out b8)
 replace V:=hZq (V.out.later b8)
 replace T:=hZq (Tab.later T.out b8)
 replace U:=hZq (OwnS.later U.out b8)
 replace HB:=hZq (below2Z HB.out b8)
 clear b8
 replace QB:=hZq QB
 have MBo:=blk6 MB.out
 have LBo:=blk7 LB.out
 have FBo:=blk10 FB.out
 have RBo:=blk7 RB.out
 go_upto_region 4 with fail
 clear MBo LBo FBo RBo
 generalize (w6.alloc (.cells #[.string ⟨xc.toArray⟩,.bool xo,.int .i64 xa,.int .i64 xb,.int .i64 xd,.string ⟨xs.toArray⟩] 42)).alloc (.cells #[.slice a2 m c2,.bool la] 29)=w9 at MB LB FB RB XB QB V T U HB ⊢
 have MBo:=blk6 MB.out
 have LBo:=blk7 LB.out
 have QBo:=blk2 QB.out
 have XBo:=blk6 XB.out
 go_upto_region 5 with fail
 clear MBo LBo QBo XBo
 have LB2:Hid (((w9.setCell ⟨w.heap.size+1,1,none⟩ (.slice a2 m c2)).setCell ⟨w.heap.size+1,2,none⟩ (.bool la)).heap[w.heap.size+1]?=some (.cells #[.int .i64 seq,.slice a2 m c2,.bool la,.int .i64 tok,.int .i64 at',.bool false,.int .i64 dg] 33 (0,0))):=hZq (heap_setCell_same _ (w.heap.size+1) 2 _ _ (.bool la) (heap_setCell_same w9 (w.heap.size+1) 1 _ _ (.slice a2 m c2) LB.out))
 have hne:¬ w.heap.size=w.heap.size+1:=by omega
 have MB2:Hid (((w9.setCell ⟨w.heap.size+1,1,none⟩ (.slice a2 m c2)).setCell ⟨w.heap.size+1,2,none⟩ (.bool la)).heap[w.heap.size]?=some (.cells #[.int .i64 ca,.int .i64 cb,.int .i64 cd,.int .i64 ce,.slice ta tn tc,.int .i64 now] 65 (0,0))):=hZq (((Below.heap_setCell _ _ _ (w.heap.size) hne).trans (Below.heap_setCell _ _ _ (w.heap.size) hne)).trans MB.out)
 clear hne
 have hne:¬ w.heap.size+1+1=w.heap.size+1:=by omega
 have FB2:Hid (((w9.setCell ⟨w.heap.size+1,1,none⟩ (.slice a2 m c2)).setCell ⟨w.heap.size+1,2,none⟩ (.bool la)).heap[w.heap.size+1+1]?=some (.cells #[.int .i64 0,.int .i64 0,.bool false,.string ⟨#[]⟩,.int .i64 0,.int .i64 0,.int .i64 0,.string ⟨#[]⟩,.int .u64 0,.slice none 0 0] 49 (0,0))):=hZq (((Below.heap_setCell _ _ _ (w.heap.size+1+1) hne).trans (Below.heap_setCell _ _ _ (w.heap.size+1+1) hne)).trans FB.out)
 clear hne
 have hne:¬ w.heap.size+1+1+1=w.heap.size+1:=by omega
 have RB2:Hid (((w9.setCell ⟨w.heap.size+1,1,none⟩ (.slice a2 m c2)).setCell ⟨w.heap.size+1,2,none⟩ (.bool la)).heap[w.heap.size+1+1+1]?=some (.cells #[.int .i64 0,.slice none 0 0,.bool false,.int .i64 0,.int .i64 0,.bool false,.int .i64 0] 33 (0,0))):=hZq (((Below.heap_setCell _ _ _ (w.heap.size+1+1+1) hne).trans (Below.heap_setCell _ _ _ (w.heap.size+1+1+1) hne)).trans RB.out)
 clear hne
 have hne:¬ w6.heap.size=w.heap.size+1:=fun e => by have h1:=XB.out; rw [e,LB.out] at h1; simp at h1
 have XB2:Hid (((w9.setCell ⟨w.heap.size+1,1,none⟩ (.slice a2 m c2)).setCell ⟨w.heap.size+1,2,none⟩ (.bool la)).heap[w6.heap.size]?=some (.cells #[.string ⟨xc.toArray⟩,.bool xo,.int .i64 xa,.int .i64 xb,.int .i64 xd,.string ⟨xs.toArray⟩] 42 (0,0))):=hZq (((Below.heap_setCell _ _ _ (w6.heap.size) hne).trans (Below.heap_setCell _ _ _ (w6.heap.size) hne)).trans XB.out)
 clear hne
 have hne:¬ w6.heap.size+1=w.heap.size+1:=fun e => by have h1:=QB.out; rw [e,LB.out] at h1; simp at h1
 have QB2:Hid (((w9.setCell ⟨w.heap.size+1,1,none⟩ (.slice a2 m c2)).setCell ⟨w.heap.size+1,2,none⟩ (.bool la)).heap[w6.heap.size+1]?=some (.cells #[.slice a2 m c2,.bool la] 29 (0,0))):=hZq (((Below.heap_setCell _ _ _ (w6.heap.size+1) hne).trans (Below.heap_setCell _ _ _ (w6.heap.size+1) hne)).trans QB.out)
 clear hne
 have hle:w.heap.size≤w.heap.size+1:=Nat.le_succ _
 have HB2:Hid (Below w.heap.size w ((w9.setCell ⟨w.heap.size+1,1,none⟩ (.slice a2 m c2)).setCell ⟨w.heap.size+1,2,none⟩ (.bool la))):=hZq (((HB.out.setCell hle _).setCell hle _))
 have V2:=hZq (V0.out.later HB2.out)
 have T2:=hZq (T0.out.later HB2.out)
 have hfar:∀ k,¬ k=w.heap.size+1→((w9.setCell ⟨w.heap.size+1,1,none⟩ (.slice a2 m c2)).setCell ⟨w.heap.size+1,2,none⟩ (.bool la)).heap[k]?=w9.heap[k]?:=fun k hk => (Below.heap_setCell _ _ _ k hk).trans (Below.heap_setCell _ _ _ k hk)
 have U2:Hid (OwnQ ((w9.setCell ⟨w.heap.size+1,1,none⟩ (.slice a2 m c2)).setCell ⟨w.heap.size+1,2,none⟩ (.bool la)) _ _ _):=hZq (ownQ_far U.out (fun g hg => hfar g (by omega)))
 clear hfar
 clear MB LB FB RB XB QB V T U HB
 generalize (w9.setCell ⟨w.heap.size+1,1,none⟩ (.slice a2 m c2)).setCell ⟨w.heap.size+1,2,none⟩ (.bool la)=w19 at MB2 LB2 FB2 RB2 XB2 QB2 V2 T2 U2 HB2 ⊢
 have MB:=MB2
 clear MB2
 have LB:=LB2
 clear LB2
 have FB:=FB2
 clear FB2
 have RB:=RB2
 clear RB2
 have XB:=XB2
 clear XB2
 have QB:=QB2
 clear QB2
 have V:=V2
 clear V2
 have T:=T2
 clear T2
 have U:=U2
 clear U2
 have HB:=HB2
 clear HB2
 clear hle
 have hx0:¬ w6.heap.size=w.heap.size+1+1:=fun e => by have h1:=XB.out; rw [e,FB.out] at h1; simp at h1
 have hx1:¬ w6.heap.size=w.heap.size+1+1+1:=fun e => by have h1:=XB.out; rw [e,RB.out] at h1; simp at h1
 obtain⟨BS,hBS⟩ : ∃ BS:List (Nat × List Value),BS=[(w6.heap.size,[.string ⟨xc.toArray⟩,.bool xo,.int .i64 xa,.int .i64 xb,.int .i64 xd,.string ⟨xs.toArray⟩]),(w.heap.size+1,[.int .i64 seq,.slice a2 m c2,.bool la,.int .i64 tok,.int .i64 at',.bool false,.int .i64 dg])]:=⟨_,rfl⟩
 have D0:=hZq (show heldB w19 BS from by rw [hBS]; exact heldB_cons (cellsAt_block XB.out) (heldB_cons (cellsAt_block LB.out) (heldB_nil _)))
 have hL:=heldB_at (b:=w6.heap.size) (vs:=[.string ⟨xc.toArray⟩,.bool xo,.int .i64 xa,.int .i64 xb,.int .i64 xd,.string ⟨xs.toArray⟩]) (bs:=BS) (by rw [hBS]; simp)
 have hq0:=hL 0 _ rfl
 have hq1:=hL 1 _ rfl
 have hq2:=hL 2 _ rfl
 have hq3:=hL 3 _ rfl
 have hq4:=hL 4 _ rfl
 have hq5:=hL 5 _ rfl
 clear hL
 have hL:=heldB_at (b:=w.heap.size+1) (vs:=[.int .i64 seq,.slice a2 m c2,.bool la,.int .i64 tok,.int .i64 at',.bool false,.int .i64 dg]) (bs:=BS) (by rw [hBS]; simp)
 have hq6:=hL 0 _ rfl
 have hq7:=hL 1 _ rfl
 have hq8:=hL 2 _ rfl
 have hq9:=hL 3 _ rfl
 have hq10:=hL 4 _ rfl
 have hq11:=hL 5 _ rfl
 have hq12:=hL 6 _ rfl
 clear hL
 have hBN:∀ p ∈ BS,(¬ p.1=w.heap.size+1+1)∧¬ p.1=w.heap.size+1+1+1:=by rw [hBS]; intro p hp; simp only [List.mem_cons,List.not_mem_nil,or_false] at hp; rcases hp with rfl | rfl <;> (constructor <;> simp only <;> omega)
 clear hBS
 have K0:Hid (Below w19.heap.size w19 w19.drew):=hZq (Below.refl _ _).drew
 refine wp_region_held_drew (S:=(fun X => heldB X BS)) (by kernel_rfl) ?_ (fun hHeld => ?_)
 ·exact heldB_up K0.out D0.out
 generalize w19.drew=z0 at K0 hHeld ⊢
 refine tkZ 0 ?_
 refine tkZ 1 ?_
 refine tkZ 2 ?_
 refine tkZ 3 ?_
 refine tkZ 4 ?_
 refine tkZ 5 ?_
 refine tkZ 6 ?_
 refine tkZ 7 ?_
 have FB1:=upQ FB.out (K0.out)
 have RB1:=upQ RB.out (K0.out)
 obtain⟨⟨c0,c1,c2,c3,c4,c5,c6,c7,c8,c9⟩,⟨g0,g1,g2,g3,g4,g5,g6,g7,g8,g9⟩⟩:=blk10 FB1
 refine wpAnyH_ready (rs:=[8]) (by as_aux_lemma => kernel_rfl) (by simp) ?_
 refine AllReadyH.cons rfl (fun Kx hK => ?_) AllReadyH.nil
 go_simp
 clear c0 c1 c2 c3 c4 c5 c6 c7 c8 c9 g0 g1 g2 g3 g4 g5 g6 g7 g8 g9
 have FZ:=hZq (stN10_heap FB1 (.int .i64 1) (.int .i64 0) (.bool xo) (.string ⟨xc.toArray⟩) (.int .i64 xa) (.int .i64 xb) (.int .i64 xd) (.string ⟨xs.toArray⟩) (.int .u64 0) (.slice none 0 0))
 have RZ:=hZq ((stN10_far z0 (w.heap.size+1+1) (.int .i64 1) (.int .i64 0) (.bool xo) (.string ⟨xc.toArray⟩) (.int .i64 xa) (.int .i64 xb) (.int .i64 xd) (.string ⟨xs.toArray⟩) (.int .u64 0) (.slice none 0 0) (by omega:¬ w.heap.size+1+1+1=w.heap.size+1+1)).trans RB1)
 have HZ:=hZq (stN10_below (below2Z HB.out (K0.out)) (by omega:w.heap.size≤w.heap.size+1+1) (.int .i64 1) (.int .i64 0) (.bool xo) (.string ⟨xc.toArray⟩) (.int .i64 xa) (.int .i64 xb) (.int .i64 xd) (.string ⟨xs.toArray⟩) (.int .u64 0) (.slice none 0 0))
 have DZ:=hZq (heldB_far (heldB_up (K0.out) D0.out) (fun k hk => stN10_far z0 (w.heap.size+1+1) (.int .i64 1) (.int .i64 0) (.bool xo) (.string ⟨xc.toArray⟩) (.int .i64 xa) (.int .i64 xb) (.int .i64 xd) (.string ⟨xs.toArray⟩) (.int .u64 0) (.slice none 0 0) hk) (fun p hp => (hBN p hp).1))
 replace U:=hZq (ownQ_far (OwnS.later U.out K0.out) (fun g hg => stN10_far z0 (w.heap.size+1+1) (.int .i64 1) (.int .i64 0) (.bool xo) (.string ⟨xc.toArray⟩) (.int .i64 xa) (.int .i64 xb) (.int .i64 xd) (.string ⟨xs.toArray⟩) (.int .u64 0) (.slice none 0 0) (by omega)))
 refine hK.out _ _ ?_ (fun hHeld2 => ?_)
 ·exact DZ.out
 clear hK Kx hHeld FB1 RB1
 have hHeld:=hHeld2
 clear hHeld2
 obtain⟨zf,hzf⟩ : ∃ X,X=stN10 z0 (w.heap.size+1+1) (.int .i64 1) (.int .i64 0) (.bool xo) (.string ⟨xc.toArray⟩) (.int .i64 xa) (.int .i64 xb) (.int .i64 xd) (.string ⟨xs.toArray⟩) (.int .u64 0) (.slice none 0 0):=⟨_,rfl⟩
 rw [← hzf] at FZ RZ HZ DZ U
 unfold stN10 at hzf
 simp only [← hzf] at hHeld ⊢
 clear hzf
 obtain⟨⟨c0,c1,c2,c3,c4,c5,c6⟩,⟨g0,g1,g2,g3,g4,g5,g6⟩⟩:=blk7 RZ.out
 refine wpAnyH_ready (rs:=[9]) (by as_aux_lemma => kernel_rfl) (by simp) ?_
 refine AllReadyH.cons rfl (fun Kx hK => ?_) AllReadyH.nil
 go_simp
 clear c0 c1 c2 c3 c4 c5 c6 g0 g1 g2 g3 g4 g5 g6
 have RZ2:=hZq (stN7_heap RZ.out (.int .i64 seq) (.slice a2 m c2) (.bool la) (.int .i64 tok) (.int .i64 at') (.bool false) (.int .i64 dg))
 have FZ2:=hZq ((stN7_far zf (w.heap.size+1+1+1) (.int .i64 seq) (.slice a2 m c2) (.bool la) (.int .i64 tok) (.int .i64 at') (.bool false) (.int .i64 dg) (by omega:¬ w.heap.size+1+1=w.heap.size+1+1+1)).trans FZ.out)
 have HZ2:=hZq (stN7_below HZ.out (by omega:w.heap.size≤w.heap.size+1+1+1) (.int .i64 seq) (.slice a2 m c2) (.bool la) (.int .i64 tok) (.int .i64 at') (.bool false) (.int .i64 dg))
 have DZ2:=hZq (heldB_far DZ.out (fun k hk => stN7_far zf (w.heap.size+1+1+1) (.int .i64 seq) (.slice a2 m c2) (.bool la) (.int .i64 tok) (.int .i64 at') (.bool false) (.int .i64 dg) hk) (fun p hp => (hBN p hp).2))
 replace U:=hZq (ownQ_far U.out (fun g hg => stN7_far zf (w.heap.size+1+1+1) (.int .i64 seq) (.slice a2 m c2) (.bool la) (.int .i64 tok) (.int .i64 at') (.bool false) (.int .i64 dg) (by omega)))
 refine hK.out _ _ ?_ (fun hHeld2 => ?_)
 ·exact DZ2.out
 clear hK Kx hHeld RZ FZ DZ HZ
 have hHeld:=hHeld2
 clear hHeld2
 obtain⟨zr,hzr⟩ : ∃ X,X=stN7 zf (w.heap.size+1+1+1) (.int .i64 seq) (.slice a2 m c2) (.bool la) (.int .i64 tok) (.int .i64 at') (.bool false) (.int .i64 dg):=⟨_,rfl⟩
 rw [← hzr] at FZ2 RZ2 HZ2 DZ2 U
 unfold stN7 at hzr
 simp only [← hzr] at hHeld ⊢
 clear hzr
 refine tkZ 10 ?_
 refine wpAnyH_done (by kernel_rfl) ?_ _
 obtain⟨⟨u0,u1,u2,u3,u4,u5,u6,u7,u8,u9⟩,-⟩:=blk10 FZ2.out
 obtain⟨⟨y0,y1,y2,y3,y4,y5,y6⟩,-⟩:=blk7 RZ2.out
 go_wp2_with fail
 refine bodyPost_ret (v:=.tuple #[.agg #[.int .i64 1,.int .i64 0,.bool xo,.string ⟨xc.toArray⟩,.int .i64 xa,.int .i64 xb,.int .i64 xd,.string ⟨xs.toArray⟩,.int .u64 0,.slice none 0 0],.agg #[.int .i64 seq,.slice a2 m c2,.bool la,.int .i64 tok,.int .i64 at',.bool false,.int .i64 dg],.bool true]) (by simp [results,Try.results33,go_sem,u0,u1,u2,u3,u4,u5,u6,u7,u8,u9,y0,y1,y2,y3,y4,y5,y6]) rfl ?_
 exact⟨_,rfl,ownS_low U.out (by omega),HZ2.out⟩
end
section

def lnHas (has:List Row) (f:Frm):List Row:=if f.k=3 then f.t else if f.k=1 then diSet has ⟨f.c,f.on,f.v⟩ else has

theorem tell_ways {c:Cfg} {view:List Row} {now:Int} {l m:Lnk} {f:Frm} (ht:lnTell c view now l=some (f,m)) :
  (l.sn=true∧f=⟨3,0,false,[],Val.zero,0,view⟩∧m={ l with sn:=false,q:=⟨[],false⟩,dg:=now }) ∨
  (l.sn=false∧∃ x r,l.q.l=x :: r∧f=⟨1,0,x.on,x.c,x.v,0,[]⟩∧m={ l with q:=⟨r,l.q.la⟩ }) ∨
  (l.sn=false∧l.q.l=[]∧c.per≤now - l.dg∧f=⟨2,0,false,[],Val.zero,diSum view,[]⟩∧m={ l with dg:=now }):=by
 unfold lnTell at ht
 cases hs:l.sn with
 | true =>
  rw [if_pos hs] at ht
  cases ht
  exact .inl ⟨rfl,rfl,rfl⟩
 | false =>
  rw [if_neg (by rw [hs]; decide)] at ht
  cases hq:l.q.l with
  | cons x r =>
   rw [hq] at ht
   simp only at ht
   cases ht
   exact .inr (.inl ⟨rfl,x,r,rfl,rfl,by rw [hs]⟩)
  | nil =>
   rw [hq] at ht
   simp only at ht
   split at ht
   ·cases ht
   ·cases ht
    exact .inr (.inr ⟨rfl,rfl,by omega,rfl,by rw [hs]⟩)

theorem step_ways {c:Cfg} {view:List Row} {now:Int} {l m:Lnk} {f:Frm} (ht:lnStep c view now l=some (f,m)) :
  ∃ f0 m0,lnTell c view now l=some (f0,m0)∧f={ f0 with s:=l.seq }∧m={ m0 with b:=(pcTake c l.b now).1,seq:=l.seq+1 }∧(pcTake c l.b now).2=true∧l.seq < 1099511627776:=by
 unfold lnStep at ht
 split at ht
 ·cases ht
 ·split at ht
  ·cases ht
  ·rename_i f0 m0 hT
   split at ht
   ·rename_i hk
    cases ht
    exact⟨f0,m0,hT,rfl,rfl,hk,by omega⟩
   ·cases ht

theorem run_nosnap {c:Cfg} {view:List Row} {now:Int}:∀ (n:Nat) (l:Lnk),l.sn=false→(lnRun c view now n l).1.sn=false∧∀ f ∈ (lnRun c view now n l).2,¬ f.k=3
 | 0,l,h => ⟨h,fun f hf => by simp [lnRun] at hf⟩
 | n+1,l,h => by
  cases hs:lnStep c view now l with
  | none => rw [run_none hs]; exact⟨h,fun f hf => by simp at hf⟩
  | some p =>
   obtain⟨f,m⟩:=p
   rw [run_some hs]
   obtain⟨f0,m0,hT,rfl,rfl,_,_⟩:=step_ways hs
   have hm:m0.sn=false∧¬ f0.k=3:=by
    rcases tell_ways hT with ⟨e,_⟩ | ⟨_,x,r,_,rfl,rfl⟩ | ⟨_,_,_,rfl,rfl⟩
    ·rw [h] at e; cases e
    ·exact⟨h,by show ¬ (1:Int)=3; decide⟩
    ·exact⟨h,by show ¬ (2:Int)=3; decide⟩
   obtain⟨r1,r2⟩:=run_nosnap n _ (show ({ m0 with b:=(pcTake c l.b now).1,seq:=l.seq+1 }:Lnk).sn=false from hm.1)
   refine ⟨r1,fun f hf => ?_⟩
   rcases List.mem_cons.1 hf with rfl | hf
   ·exact hm.2
   ·exact r2 f hf

theorem step_idle {c:Cfg} {view:List Row} {now:Int} {l:Lnk} (hs:l.sn=false) (hq:l.q.l=[]) (hd:now - l.dg < c.per):lnStep c view now l=none:=by
 cases h:lnStep c view now l with
 | none => rfl
 | some p =>
  obtain⟨f,m⟩:=p
  obtain⟨f0,m0,hT,_⟩:=step_ways h
  rcases tell_ways hT with ⟨e,_⟩ | ⟨_,x,r,e,_⟩ | ⟨_,_,e,_⟩
  ·rw [hs] at e; cases e
  ·rw [hq] at e; cases e
  ·omega

theorem ask_may {c:Cfg} {l:Lnk} (h:lnMay c l=true):lnMay c (lnAsk l)=true:=by
 obtain⟨h1,h2,h3,h4,h5,h6,h7⟩:=lnMay_iff.1 h
 obtain⟨m1,_⟩:=quMay_iff.1 h4
 exact lnMay_iff.2 ⟨h1,h2,h3,quMay_iff.2 ⟨by show ((0:Nat):Int)≤c.room; omega,fun _ => rfl,(fun x hx => by cases hx),List.nodup_nil⟩,rfl,h6,fun _ => rfl⟩
end
section
open Go.RowKit

theorem blk_ne {W:World} {B C:Nat} {cs ds:Array Value} {T T':TypeId} (h:W.heap[B]?=some (.cells cs T (0,0))) (k:W.heap[C]?=some (.cells ds T' (0,0))) (hne:T ≠ T'):¬ B=C:=by
 rintro rfl
 rw [h] at k
 simp only [Option.some.injEq,Obj.cells.injEq] at k
 exact hne k.2.1

theorem row_past {w W:World} {base e sz n:Nat} {v:Value} {xs:List Value} (h:w.ownsRow base e sz v n xs) {B:Nat} {cs:Array Value} {T:TypeId} (hb:w.heap[B]?=some (.cells cs T (0,0))) (hne:e ≠ T) (hfar:∀ k,¬ k=B→W.heap[k]?=w.heap[k]?):W.ownsRow base e sz v n xs:=by
 refine ⟨h.1,?_⟩
 rcases h.2 with h' | ⟨g,cap,cur,h1,h2,h3,h4⟩
 ·exact .inl h'
 ·exact .inr ⟨g,cap,cur,h1,h2,(hfar g (blk_ne h3 hb hne)).trans h3,h4⟩

def AppFar (w W:World) (v:Value):Prop:=∀ b,b < w.heap.size→(∀ n c,v ≠ .slice (some ⟨b,0,none⟩) n c)→W.heap[b]?=w.heap[b]?

theorem own_not {α:Type} {vals:α→List Value} {sz:Nat} {T:TypeId} {w:World} {base:Nat} {v:Value} {t:List α} (h:OwnS vals sz T w base v t) {B:Nat} {cs:Array Value} {T':TypeId} (hb:w.heap[B]?=some (.cells cs T' (0,0))) (hne:T ≠ T'):∀ n c,v ≠ .slice (some ⟨B,0,none⟩) n c:=by
 intro n c e
 subst e
 obtain⟨_,_,_,_,_,cur,h4,_⟩:=h.head
 rw [hb] at h4
 simp only [Option.some.injEq,Obj.cells.injEq] at h4
 exact hne h4.2.1.symm

theorem blk_app {α:Type} {vals:α→List Value} {sz:Nat} {T:TypeId} {w W:World} {base:Nat} {v:Value} {t:List α} {B:Nat} {cs:Array Value} {T':TypeId} (hb:w.heap[B]?=some (.cells cs T' (0,0))) (h:OwnS vals sz T w base v t) (hne:T ≠ T') (hfar:AppFar w W v):W.heap[B]?=some (.cells cs T' (0,0)) :=
 (hfar B (Array.getElem?_eq_some_iff.1 hb).1 (own_not h hb hne)).trans hb

theorem row_app {α:Type} {vals:α→List Value} {sz:Nat} {T:TypeId} {w W:World} {base:Nat} {v:Value} {t:List α} {b2 e s2 n:Nat} {u:Value} {xs:List Value} (k:w.ownsRow b2 e s2 u n xs) (h:OwnS vals sz T w base v t) (hne:T ≠ e) (hfar:AppFar w W v):W.ownsRow b2 e s2 u n xs:=by
 refine ⟨k.1,?_⟩
 rcases k.2 with h' | ⟨g,cap,cur,h1,h2,h3,h4⟩
 ·exact .inl h'
 ·exact .inr ⟨g,cap,cur,h1,h2,blk_app h3 h hne hfar,h4⟩

def KQ (w W:World) (v:Value) (l:List Chg):Prop:=(∀ X,Below w.heap.size w X→Chgs X v l)∨OwnQ W w.heap.size v l

theorem KQ.chgs {w W:World} {v:Value} {l:List Chg} (h:KQ w W v l) (hb:Below w.heap.size w W):Chgs W v l:=h.elim (fun h => h W hb) fun h => h.chgs
theorem KQ.later {w W X:World} {v:Value} {l:List Chg} (h:KQ w W v l) (hb:Below W.heap.size W X):KQ w X v l:=h.imp id fun h => OwnS.later h hb
theorem KQ.past {w W X:World} {v:Value} {l:List Chg} (h:KQ w W v l) {B:Nat} {cs:Array Value} {T:TypeId} (hb:W.heap[B]?=some (.cells cs T (0,0))) (hne:42 ≠ T) (hfar:∀ k,¬ k=B→X.heap[k]?=W.heap[k]?):KQ w X v l:=h.imp id fun h => row_past h hb hne hfar
theorem KQ.app {w W X:World} {v u:Value} {l:List Chg} {t:List FrS} (h:KQ w W v l) (k:OwnS frVals 10 49 W w.heap.size u t) (hfar:AppFar W X u):KQ w X v l:=h.imp id fun h => row_app h k (by decide) hfar

def KT (w W:World) (p:FrS):Prop:=(p.f.t=[]∧p.tv=.slice none 0 0)∨OwnR W w.heap.size p.tv p.f.t

theorem KT.tab {w W:World} {p:FrS} (h:KT w W p):Tab W p.tv p.f.t:=by
 rcases h with ⟨h1,h2⟩ | h
 ·rw [h1,h2]
  exact OwnR.tab (ownR_nil W 0)
 ·exact h.tab
theorem KT.later {w W X:World} {p:FrS} (h:KT w W p) (hb:Below W.heap.size W X):KT w X p:=h.imp id fun h => OwnR.later h hb
theorem KT.past {w W X:World} {p:FrS} (h:KT w W p) {B:Nat} {cs:Array Value} {T:TypeId} (hb:W.heap[B]?=some (.cells cs T (0,0))) (hne:55 ≠ T) (hfar:∀ k,¬ k=B→X.heap[k]?=W.heap[k]?):KT w X p:=h.imp id fun h => row_past h hb hne hfar
theorem KT.app {w W X:World} {p:FrS} {u:Value} {t:List FrS} (h:KT w W p) (k:OwnS frVals 10 49 W w.heap.size u t) (hfar:AppFar W X u):KT w X p:=h.imp id fun h => row_app h k (by decide) hfar

def KF (w W:World) (v:Value) (ps:List FrS):Prop:=OwnS frVals 10 49 W w.heap.size v ps∧∀ p ∈ ps,KT w W p

theorem KF.frms {w W:World} {v:Value} {ps:List FrS} (h:KF w W v ps):Frms W v ps:=⟨OwnS.rd frSOK h.1,fun p hp => (h.2 p hp).tab⟩
theorem KF.later {w W X:World} {v:Value} {ps:List FrS} (h:KF w W v ps) (hb:Below W.heap.size W X):KF w X v ps:=⟨OwnS.later h.1 hb,fun p hp => (h.2 p hp).later hb⟩
theorem KF.past {w W X:World} {v:Value} {ps:List FrS} (h:KF w W v ps) {B:Nat} {cs:Array Value} {T:TypeId} (hb:W.heap[B]?=some (.cells cs T (0,0))) (hne:49 ≠ T) (hne2:55 ≠ T) (hfar:∀ k,¬ k=B→X.heap[k]?=W.heap[k]?):KF w X v ps :=
 ⟨row_past h.1 hb hne hfar,fun p hp => (h.2 p hp).past hb hne2 hfar⟩
theorem KF.more {w W X:World} {v u:Value} {ps:List FrS} {p:FrS} (h:KF w W v ps) (hp:KT w W p) (hown:OwnS frVals 10 49 X w.heap.size u (ps ++ [p])) (hfar:AppFar W X v):KF w X u (ps ++ [p]) :=
 ⟨hown,fun q hq => by
  rcases List.mem_append.1 hq with hq | hq
  ·exact (h.2 q hq).app h.1 hfar
  ·rw [List.mem_singleton] at hq; subst hq; exact hp.app h.1 hfar⟩

theorem kf_nil (w W:World):KF w W (.slice none 0 0) []:=⟨ownS_nil _ _,fun p hp => by cases hp⟩

theorem kf_shape {w W:World} {v:Value} {ps:List FrS} (h:KF w W v ps):∃ a c,v=.slice a ps.length c:=by
 rcases h.1.2 with ⟨rfl,h0⟩ | ⟨g,cap,cur,h',_⟩
 ·exact⟨none,0,by rw [h0]⟩
 ·exact⟨_,_,h'⟩

theorem wpList_append_fr {w:World} {ops:Array Oper} {rest:List Oper} {o:Oper} {a:Act} {Q:Exit→Act→World→Prop}
  (hgd:o.guard=none) (s x:Operand) (ho:o.op=.call { callee:=.builtin .append,args:=#[s,x],argTypes:=#[43,43] })
  (base:Nat) (v:Value) (t:List FrS) (hs:a.eval s=v) (hown:OwnS frVals 10 49 w base v t) (ad:Addr) (p:FrS) (hx:a.eval x=.slice (some ad) 1 1)
  (hsome:SrcS frVals w ad [p]) (hlen:t.length < 4294967) (hbase:base≤w.heap.size)
  (h:∀ v' w',OwnS frVals 10 49 w' base v' (t ++ [p])→Below base w w'→AppFar w w' v→wpList Try.prog ops Q rest (a.put o.dst v') w') :
  wpList Try.prog ops Q (o :: rest) a w:=by
 obtain⟨i,hi,hz,hsize,hby⟩:=info_parts frSOK.info
 refine wpList_append_own _ hgd s x 43 ho base 49 i _ 10 112 frSOK.under hi hz hsize hby rfl (by decide) v t.length (cellsS frVals t) hs hown ad 1 1 (cellsS frVals [p]) hx (cellsS_len frSOK.len [p]) hsome (cellsS_single frSOK.one [p])
  (by unfold maxLen; omega) (by omega) hbase ?_
 intro v' w' hown' hgrow _
 refine h v' w' ?_ ((Below.refl base w).grown hgrow hbase (fun k hk => (World.ownsRow.lt hown k hk).1)) ?_
 ·unfold OwnS
  rw [cellsS_append,List.length_append]
  exact hown'
 ·intro b hb hn
  refine hgrow.block b hb fun e => ?_
  rcases hown.2 with ⟨rfl,_⟩ | ⟨g,cap,cur,rfl,_⟩
  ·simp [Value.ownBlock] at e
  ·obtain rfl:b=g:=by simpa [Value.ownBlock] using e
   exact hn _ _ rfl

/-! ### plain -/

def EmP (c:Cfg) (view:List Row) (now:Int) (l L:Lnk) (n:Nat) (fs:List Frm):Prop :=
 lnMay c L=true∧pcLev c L.b now+fs.length≤64∧n+fs.length=65∧lnRun c view now 65 l=((lnRun c view now n L).1,fs ++ (lnRun c view now n L).2)

theorem emp_start {c:Cfg} {view:List Row} {now:Int} {l:Lnk} (h:lnMay c l=true):EmP c view now l l 65 []:=by
 have hb:=(pcLev_ge (now:=now) (lnMay_iff.1 h).1).2.1
 have h64:=(pcMay_iff.1 (pcOne_iff.1 (lnMay_iff.1 h).1).1).2.2.2.1
 exact⟨h,by simp; omega,rfl,rfl⟩

theorem emp_step {c:Cfg} {view:List Row} {now:Int} {l L m:Lnk} {n:Nat} {fs:List Frm} {f:Frm} (h:EmP c view now l L n fs) (hv:diMay view=true) (hn:pcTime now=true) (hs:lnStep c view now L=some (f,m)):EmP c view now l m (n - 1) (fs ++ [f])∧fs.length < 64:=by
 obtain⟨h1,h2,h3,h4⟩:=h
 obtain⟨s1,_,_,_,_,s6,s7⟩:=step_may h1 hv hn hs
 obtain⟨k,rfl⟩ : ∃ k,n=k+1:=⟨n - 1,by omega⟩
 rw [run_some hs] at h4
 refine ⟨⟨s1,by rw [List.length_append,s6]; simp; omega,by rw [List.length_append]; simp; omega,?_⟩,by omega⟩
 rw [h4,Nat.add_sub_cancel]
 simp

theorem emp_end {c:Cfg} {view:List Row} {now:Int} {l L:Lnk} {n:Nat} {fs:List Frm} (h:EmP c view now l L n fs) (hs:lnStep c view now L=none):lnRun c view now 65 l=(L,fs):=by
 obtain⟨_,_,_,h4⟩:=h
 cases n with
 | zero => rw [h4]; simp [lnRun]
 | succ n => rw [h4,run_none hs]; simp

theorem stp_seq {c:Cfg} {view:List Row} {now:Int} {L:Lnk} (h:1099511627776≤L.seq):lnStep c view now L=none:=by unfold lnStep; rw [if_pos h]

theorem stp_tok {c:Cfg} {view:List Row} {now:Int} {L:Lnk} {b:Bkt} (h:pcTake c L.b now=(b,false)):lnStep c view now L=none:=by
 unfold lnStep
 split
 ·rfl
 ·split
  ·rfl
  ·rw [h]; simp

theorem stp_s {c:Cfg} {view:List Row} {now:Int} {q:Que} {k b:Bkt} {seq dg:Int} (hs:seq < 1099511627776) (h:pcTake c k now=(b,true)):lnStep c view now ⟨seq,q,k,true,dg⟩=some (⟨3,seq,false,[],Val.zero,0,view⟩,⟨seq+1,⟨[],false⟩,b,false,now⟩):=by
 unfold lnStep lnTell
 rw [if_neg (by simp only; omega)]
 simp only [if_true]
 rw [h]
 rfl

theorem stp_d {c:Cfg} {view:List Row} {now:Int} {x:Chg} {r:List Chg} {la:Bool} {k b:Bkt} {seq dg:Int} (hs:seq < 1099511627776) (h:pcTake c k now=(b,true)):lnStep c view now ⟨seq,⟨x :: r,la⟩,k,false,dg⟩=some (⟨1,seq,x.on,x.c,x.v,0,[]⟩,⟨seq+1,⟨r,la⟩,b,false,dg⟩):=by
 unfold lnStep lnTell
 rw [if_neg (by simp only; omega)]
 simp only [Bool.false_eq_true,if_false]
 rw [h]
 rfl

theorem stp_g {c:Cfg} {view:List Row} {now:Int} {la:Bool} {k b:Bkt} {seq dg:Int} (hs:seq < 1099511627776) (hd:¬ now - dg < c.per) (h:pcTake c k now=(b,true)):lnStep c view now ⟨seq,⟨[],la⟩,k,false,dg⟩=some (⟨2,seq,false,[],Val.zero,diSum view,[]⟩,⟨seq+1,⟨[],la⟩,b,false,now⟩):=by
 unfold lnStep lnTell
 rw [if_neg (by simp only; omega)]
 simp only [Bool.false_eq_true,if_false]
 rw [if_neg hd,h]
 rfl

theorem stp_n {c:Cfg} {view:List Row} {now:Int} {la:Bool} {k:Bkt} {seq dg:Int} (hd:now - dg < c.per):lnStep c view now ⟨seq,⟨[],la⟩,k,false,dg⟩=none:=step_idle rfl rfl hd

def slLen:Value→Nat
 | .slice _ n _ => n
 | _ => 0
end
end Go.Proofs.Ytfocooajnignbaa
