/-
 TEXTS OF THE PROOF, one behind the other: LnkMem, QuePush, DigRset, DigSameC, QueOver, QuePop, DigBox, QueLive, FltPure, FltMore, PacCode.
-/
import Derived.Test.YtfocooajnignbaaW06
import Derived.Test.YtfocooajnignbaaW05
import Derived.Deep.DeepCutAuto
import Derived.Deep.CutBlock
import Derived.Test.YtfocooajnignbaaW03
import Derived.Test.YtfocooajnignbaaW04
import Derived.Laws.ComplexArith
import Derived.Laws.FloatArith
import Derived.Test.YtfocooajnignbaaProg
import Derived.Lib.MinMax
import Derived.Lib.Hide
import Derived.WalkLawsBesides

set_option maxHeartbeats 12800000
set_option maxRecDepth 100000

section
end

section
namespace Go.Proofs.Ytfocooajnignbaa
open Go.RowKit

theorem chg_store {w:World} {base g n cap:Nat} {l:List Chg} (h:OwnQ w base (.slice (some ⟨g,0,none⟩) n cap) l) {i:Nat} (hi:i < l.length) (c st:List UInt8) (on:Bool) (a b d:Int) :
  OwnQ ((((((w.setCell ⟨g,i * 6,none⟩ (.string ⟨c.toArray⟩)).setCell ⟨g,i * 6+1,none⟩ (.bool on)).setCell ⟨g,i * 6+2,none⟩ (.int .i64 a)).setCell ⟨g,i * 6+3,none⟩ (.int .i64 b)).setCell ⟨g,i * 6+4,none⟩ (.int .i64 d)).setCell ⟨g,i * 6+5,none⟩ (.string ⟨st.toArray⟩)) base (.slice (some ⟨g,0,none⟩) n cap) (l.set i ⟨c,on,⟨a,b,d,st⟩⟩) :=
 ownS_set chgOK h hi ⟨c,on,⟨a,b,d,st⟩⟩

theorem store6Q {w0 w:World} {base g:Nat} (h:Below base w0 w) (hg:base≤g) (a0 a1 a2 a3 a4 a5:Nat) (v0 v1 v2 v3 v4 v5:Value) :
  Below base w0 ((((((w.setCell ⟨g,a0,none⟩ v0).setCell ⟨g,a1,none⟩ v1).setCell ⟨g,a2,none⟩ v2).setCell ⟨g,a3,none⟩ v3).setCell ⟨g,a4,none⟩ v4).setCell ⟨g,a5,none⟩ v5) :=
 (((((h.setCell hg _).setCell hg _).setCell hg _).setCell hg _).setCell hg _).setCell hg _

theorem ownQ_other {w:World} {base:Nat} {v:Value} {l:List Chg} (h:OwnQ w base v l) {b:Nat} (hb:b < base) (j:Nat) (u:Value):OwnQ (w.setCell ⟨b,j,none⟩ u) base v l:=by
 obtain⟨h1,h2⟩:=h
 refine ⟨h1,?_⟩
 rcases h2 with h2 | ⟨g,cap,cur,e,hge,hgb,r⟩
 ·exact .inl h2
 ·exact .inr ⟨g,cap,cur,e,hge,(Below.heap_setCell _ _ _ g (by show ¬ g=b; omega)).trans hgb,r⟩

theorem own_head {w:World} {base:Nat} {v:Value} {l:List Chg} (h:OwnQ w base v l) (hl:0 < l.length):∃ g cg,v=.slice (some ⟨g,0,none⟩) l.length cg∧base≤g:=by
 rcases h.2 with ⟨rfl,h0⟩ | ⟨g,cg,cur,rfl,hb,_⟩
 ·omega
 ·exact⟨g,cg,rfl,hb⟩

theorem ownQ_shape {w:World} {base:Nat} {v:Value} {l:List Chg} (h:OwnQ w base v l):∃ a c,v=.slice a l.length c:=by
 rcases h.2 with ⟨rfl,h0⟩ | ⟨g,cg,cur,rfl,_⟩
 ·exact⟨none,0,by rw [h0]⟩
 ·exact⟨_,cg,rfl⟩

theorem set2Q {w:World} {b:Nat} {x0 x1 y0 y1:Value} {T:TypeId} (h:w.heap[b]?=some (.cells #[x0,x1] T (0,0))):((w.setCell ⟨b,0,none⟩ y0).setCell ⟨b,1,none⟩ y1).cell? ⟨b,0,none⟩=some y0∧((w.setCell ⟨b,0,none⟩ y0).setCell ⟨b,1,none⟩ y1).cell? ⟨b,1,none⟩=some y1:=by
 have h1:=heap_setCell_same w b 0 _ _ y0 h
 have h2:=heap_setCell_same _ b 1 _ _ y1 h1
 exact⟨cell_of_row _ b 0 _ _ (0,0) h2,cell_of_row _ b 1 _ _ (0,0) h2⟩

theorem qupush_1 {w:World} {v:Value} {l:List Chg} (hv:Chgs w v l) (c st:List UInt8) (on:Bool) (a b d:Int) (room:Int) :
  Calls Try.prog 21 #[.agg #[v,.bool true],.agg #[.string ⟨c.toArray⟩,.bool on,.int .i64 a,.int .i64 b,.int .i64 d,.string ⟨st.toArray⟩],.int .i64 room] w fun e w' => e=.returned (.agg #[v,.bool true])∧Below w.heap.size w w':=by
 obtain⟨ao,cap,rfl,hmx⟩:=hv.open'
 have b0:=bl_newZ w (.cells #[.slice ao l.length cap,.bool true] 29)
 have b1:=bl_newZ (w.alloc (.cells #[.slice ao l.length cap,.bool true] 29)) (.cells #[.string ⟨c.toArray⟩,.bool on,.int .i64 a,.int .i64 b,.int .i64 d,.string ⟨st.toArray⟩] 42)
 have b2:=bl_newZ ((w.alloc (.cells #[.slice ao l.length cap,.bool true] 29)).alloc (.cells #[.string ⟨c.toArray⟩,.bool on,.int .i64 a,.int .i64 b,.int .i64 d,.string ⟨st.toArray⟩] 42)) (.cells #[.slice none 0 0,.bool false] 29)
 have HB:=hZq (below2Z (below2Z b0 b1) b2)
 have V:=hZq (((hv.later b0).later b1).later b2)
 have A:=hZq (upQ (upQ (newQ w (.cells #[.slice ao l.length cap,.bool true] 29)) b1) b2)
 have C:=newQ (w.alloc (.cells #[.slice ao l.length cap,.bool true] 29)) (.cells #[.string ⟨c.toArray⟩,.bool on,.int .i64 a,.int .i64 b,.int .i64 d,.string ⟨st.toArray⟩] 42)
 rw [World.size_alloc] at C
 replace C:=hZq (upQ C b2)
 have R:=newQ ((w.alloc (.cells #[.slice ao l.length cap,.bool true] 29)).alloc (.cells #[.string ⟨c.toArray⟩,.bool on,.int .i64 a,.int .i64 b,.int .i64 d,.string ⟨st.toArray⟩] 42)) (.cells #[.slice none 0 0,.bool false] 29)
 rw [World.size_alloc,World.size_alloc] at R
 replace R:=hZq R
 clear b0 b1 b2 hv
 obtain⟨⟨q0,q1⟩,f0,f1⟩:=twoQ A.out
 obtain⟨⟨c_0,c_1,c_2,c_3,c_4,c_5⟩,⟨d_0,d_1,d_2,d_3,d_4,d_5⟩⟩:=sixQ C.out
 obtain⟨⟨r0,r1⟩,g0,g1⟩:=twoQ R.out
 go_enter Try.func21,Try.ntmps21
 go_wp2_with fail
 refine bodyPost_ret (v:=.agg #[.slice ao l.length cap,.bool true]) (by simp [results,Try.results21,go_sem]) rfl ⟨rfl,?_⟩
 exact (((Below.refl _ _).alloc (Nat.le_refl _) _).alloc (by simp) _).alloc (by simp; omega) _

theorem qupush_2 {w:World} {v:Value} {l:List Chg} (hv:Chgs w v l) (_hl:l.length≤1000) (c st:List UInt8) (on:Bool) (a b d:Int) (room:Int) (hh:quHas l c=false) (hr:room≤(l.length:Int)) :
  Calls Try.prog 21 #[.agg #[v,.bool false],.agg #[.string ⟨c.toArray⟩,.bool on,.int .i64 a,.int .i64 b,.int .i64 d,.string ⟨st.toArray⟩],.int .i64 room] w fun e w' => e=.returned (.agg #[.slice none 0 0,.bool true])∧Below w.heap.size w w':=by
 obtain⟨ao,cap,rfl,hmx⟩:=hv.open'
 have b0:=bl_newZ w (.cells #[.slice ao l.length cap,.bool false] 29)
 have b1:=bl_newZ (w.alloc (.cells #[.slice ao l.length cap,.bool false] 29)) (.cells #[.string ⟨c.toArray⟩,.bool on,.int .i64 a,.int .i64 b,.int .i64 d,.string ⟨st.toArray⟩] 42)
 have b2:=bl_newZ ((w.alloc (.cells #[.slice ao l.length cap,.bool false] 29)).alloc (.cells #[.string ⟨c.toArray⟩,.bool on,.int .i64 a,.int .i64 b,.int .i64 d,.string ⟨st.toArray⟩] 42)) (.cells #[.slice none 0 0,.bool false] 29)
 have HB:=hZq (below2Z (below2Z b0 b1) b2)
 have V:=hZq (((hv.later b0).later b1).later b2)
 have A:=hZq (upQ (upQ (newQ w (.cells #[.slice ao l.length cap,.bool false] 29)) b1) b2)
 have C:=newQ (w.alloc (.cells #[.slice ao l.length cap,.bool false] 29)) (.cells #[.string ⟨c.toArray⟩,.bool on,.int .i64 a,.int .i64 b,.int .i64 d,.string ⟨st.toArray⟩] 42)
 rw [World.size_alloc] at C
 replace C:=hZq (upQ C b2)
 have R:=newQ ((w.alloc (.cells #[.slice ao l.length cap,.bool false] 29)).alloc (.cells #[.string ⟨c.toArray⟩,.bool on,.int .i64 a,.int .i64 b,.int .i64 d,.string ⟨st.toArray⟩] 42)) (.cells #[.slice none 0 0,.bool false] 29)
 rw [World.size_alloc,World.size_alloc] at R
 replace R:=hZq R
 clear b0 b1 b2 hv
 have HH:=hZq hh
 have t1:decide (room≤(l.length:Int))=true:=decide_eq_true hr
 have t2:decide ((l.length:Int) < room)=false:=decide_eq_false (by omega)
 clear hh hr
 obtain⟨⟨q0,q1⟩,f0,f1⟩:=twoQ A.out
 obtain⟨⟨c_0,c_1,c_2,c_3,c_4,c_5⟩,⟨d_0,d_1,d_2,d_3,d_4,d_5⟩⟩:=sixQ C.out
 obtain⟨⟨r0,r1⟩,g0,g1⟩:=twoQ R.out
 go_enter Try.func21,Try.ntmps21
 go_wp2_with fail
 clear q0 q1 f0 f1 c_0 c_1 c_2 c_3 c_4 c_5 d_0 d_1 d_2 d_3 d_4 d_5 r0 r1 g0 g1
 refine (quplace_no V.out c HH.out).mono ?_
 rintro e w1 ⟨rfl,b1⟩
 replace V:=hZq (V.out.later b1)
 replace A:=hZq (upQ A.out b1)
 replace C:=hZq (upQ C.out b1)
 replace R:=hZq (upQ R.out b1)
 replace HB:=hZq (below2Z HB.out b1)
 clear b1
 obtain⟨⟨q0,q1⟩,f0,f1⟩:=twoQ A.out
 obtain⟨⟨c_0,c_1,c_2,c_3,c_4,c_5⟩,⟨d_0,d_1,d_2,d_3,d_4,d_5⟩⟩:=sixQ C.out
 obtain⟨⟨r0,r1⟩,g0,g1⟩:=twoQ R.out
 go_wp2_with fail
 obtain⟨z0,z1⟩:=set2Q (y0:=.slice none 0 0) (y1:=.bool true) R.out
 refine bodyPost_ret (v:=.agg #[.slice none 0 0,.bool true]) (by simp [results,Try.results21,go_sem,z0,z1]) rfl ⟨rfl,?_⟩
 have hle:w.heap.size≤w.heap.size+1+1:=by omega
 exact (HB.out.setCell hle _).setCell hle _

theorem qupush_3 {w:World} {v:Value} {l:List Chg} (hv:Chgs w v l) (hl:l.length≤1000) (c st:List UInt8) (on:Bool) (a b d:Int) (room:Int) (hh:quHas l c=true) :
  Calls Try.prog 21 #[.agg #[v,.bool false],.agg #[.string ⟨c.toArray⟩,.bool on,.int .i64 a,.int .i64 b,.int .i64 d,.string ⟨st.toArray⟩],.int .i64 room] w fun e w' => ∃ u,e=.returned (.agg #[u,.bool false])∧OwnQ w' w.heap.size u (l.set (quAt l c) ⟨c,on,⟨a,b,d,st⟩⟩)∧Below w.heap.size w w':=by
 obtain⟨ao,cap,rfl,hmx⟩:=hv.open'
 have b0:=bl_newZ w (.cells #[.slice ao l.length cap,.bool false] 29)
 have b1:=bl_newZ (w.alloc (.cells #[.slice ao l.length cap,.bool false] 29)) (.cells #[.string ⟨c.toArray⟩,.bool on,.int .i64 a,.int .i64 b,.int .i64 d,.string ⟨st.toArray⟩] 42)
 have b2:=bl_newZ ((w.alloc (.cells #[.slice ao l.length cap,.bool false] 29)).alloc (.cells #[.string ⟨c.toArray⟩,.bool on,.int .i64 a,.int .i64 b,.int .i64 d,.string ⟨st.toArray⟩] 42)) (.cells #[.slice none 0 0,.bool false] 29)
 have HB:=hZq (below2Z (below2Z b0 b1) b2)
 have V:=hZq (((hv.later b0).later b1).later b2)
 have A:=hZq (upQ (upQ (newQ w (.cells #[.slice ao l.length cap,.bool false] 29)) b1) b2)
 have C:=newQ (w.alloc (.cells #[.slice ao l.length cap,.bool false] 29)) (.cells #[.string ⟨c.toArray⟩,.bool on,.int .i64 a,.int .i64 b,.int .i64 d,.string ⟨st.toArray⟩] 42)
 rw [World.size_alloc] at C
 replace C:=hZq (upQ C b2)
 have R:=newQ ((w.alloc (.cells #[.slice ao l.length cap,.bool false] 29)).alloc (.cells #[.string ⟨c.toArray⟩,.bool on,.int .i64 a,.int .i64 b,.int .i64 d,.string ⟨st.toArray⟩] 42)) (.cells #[.slice none 0 0,.bool false] 29)
 rw [World.size_alloc,World.size_alloc] at R
 replace R:=hZq R
 clear b0 b1 b2 hv
 have HH:=hZq hh
 obtain⟨hlt,_⟩:=quAt_is hh
 obtain⟨m,hm⟩ : ∃ m,quAt l c=m:=⟨_,rfl⟩
 rw [hm] at hlt ⊢
 have HM:=hZq hm
 clear hh hm
 obtain⟨⟨q0,q1⟩,f0,f1⟩:=twoQ A.out
 obtain⟨⟨c_0,c_1,c_2,c_3,c_4,c_5⟩,⟨d_0,d_1,d_2,d_3,d_4,d_5⟩⟩:=sixQ C.out
 obtain⟨⟨r0,r1⟩,g0,g1⟩:=twoQ R.out
 go_enter Try.func21,Try.ntmps21
 go_wp2_with fail
 clear q0 q1 f0 f1 c_0 c_1 c_2 c_3 c_4 c_5 d_0 d_1 d_2 d_3 d_4 d_5 r0 r1 g0 g1
 refine (quplace_yes V.out c HH.out).mono ?_
 rintro e w1 ⟨rfl,b1⟩
 replace V:=hZq (V.out.later b1)
 replace A:=hZq (upQ A.out b1)
 replace C:=hZq (upQ C.out b1)
 replace R:=hZq (upQ R.out b1)
 replace HB:=hZq (below2Z HB.out b1)
 clear b1
 try rw [HM.out]
 obtain⟨⟨q0,q1⟩,f0,f1⟩:=twoQ A.out
 obtain⟨⟨c_0,c_1,c_2,c_3,c_4,c_5⟩,⟨d_0,d_1,d_2,d_3,d_4,d_5⟩⟩:=sixQ C.out
 obtain⟨⟨r0,r1⟩,g0,g1⟩:=twoQ R.out
 go_wp2_with fail
 clear q0 q1 f0 f1 c_0 c_1 c_2 c_3 c_4 c_5 d_0 d_1 d_2 d_3 d_4 d_5 r0 r1 g0 g1
 have hA:=(Array.getElem?_eq_some_iff.1 A.out).1
 have hR:=(Array.getElem?_eq_some_iff.1 R.out).1
 refine (chg_clone V.out.rdS (by omega)).mono ?_
 rintro e w2 ⟨u,rfl,ho,b2⟩
 replace A:=hZq (upQ A.out b2)
 replace C:=hZq (upQ C.out b2)
 replace R:=hZq (upQ R.out b2)
 replace HB:=hZq (below2Z HB.out b2)
 have hz2:=b2.size
 clear b2
 obtain⟨g,cg,rfl,hg⟩:=own_head ho (by omega)
 have O:=hZq ho
 clear ho
 obtain⟨⟨q0,q1⟩,f0,f1⟩:=twoQ A.out
 obtain⟨⟨c_0,c_1,c_2,c_3,c_4,c_5⟩,⟨d_0,d_1,d_2,d_3,d_4,d_5⟩⟩:=sixQ C.out
 obtain⟨⟨r0,r1⟩,g0,g1⟩:=twoQ R.out
 go_upto_region 8 with fail
 have A2:=heap_setCell_same w2 w.heap.size 0 _ _ (.slice (some ⟨g,0,none⟩) l.length cg) A.out
 replace C:=hZq ((Below.heap_setCell w2 ⟨w.heap.size,0,none⟩ (.slice (some ⟨g,0,none⟩) l.length cg) (w.heap.size+1) (by show ¬ w.heap.size+1=w.heap.size; omega)).trans C.out)
 replace R:=hZq ((Below.heap_setCell w2 ⟨w.heap.size,0,none⟩ (.slice (some ⟨g,0,none⟩) l.length cg) (w.heap.size+1+1) (by show ¬ w.heap.size+1+1=w.heap.size; omega)).trans R.out)
 replace O:=hZq (ownQ_other O.out hA 0 (.slice (some ⟨g,0,none⟩) l.length cg))
 replace HB:=hZq (HB.out.setCell (p:=⟨w.heap.size,0,none⟩) (Nat.le_refl _) (.slice (some ⟨g,0,none⟩) l.length cg))
 have hz3:w1.heap.size≤(w2.setCell ⟨w.heap.size,0,none⟩ (.slice (some ⟨g,0,none⟩) l.length cg)).heap.size:=by simpa using hz2
 replace A:=hZq (show _=some (Obj.cells #[.slice (some ⟨g,0,none⟩) l.length cg,.bool false] 29 (0,0)) from A2)
 clear A2 q0 q1 f0 f1 c_0 c_1 c_2 c_3 c_4 c_5 d_0 d_1 d_2 d_3 d_4 d_5 r0 r1 g0 g1
 generalize w2.setCell ⟨w.heap.size,0,none⟩ (.slice (some ⟨g,0,none⟩) l.length cg)=W2 at A C R O HB hz3 ⊢
 have O3:=hZq (chg_store O.out hlt c st on a b d)
 have B3:=hZq (store6Q HB.out (by omega:w.heap.size≤g) (m * 6) (m * 6+1) (m * 6+2) (m * 6+3) (m * 6+4) (m * 6+5) (.string ⟨c.toArray⟩) (.bool on) (.int .i64 a) (.int .i64 b) (.int .i64 d) (.string ⟨st.toArray⟩))
 have oth:∀ k,¬ k=g→((((((W2.setCell ⟨g,m * 6,none⟩ (.string ⟨c.toArray⟩)).setCell ⟨g,m * 6+1,none⟩ (.bool on)).setCell ⟨g,m * 6+2,none⟩ (.int .i64 a)).setCell ⟨g,m * 6+3,none⟩ (.int .i64 b)).setCell ⟨g,m * 6+4,none⟩ (.int .i64 d)).setCell ⟨g,m * 6+5,none⟩ (.string ⟨st.toArray⟩)).heap[k]?=W2.heap[k]?:=fun k hk => by rw [Below.heap_setCell _ _ _ k hk,Below.heap_setCell _ _ _ k hk,Below.heap_setCell _ _ _ k hk,Below.heap_setCell _ _ _ k hk,Below.heap_setCell _ _ _ k hk,Below.heap_setCell _ _ _ k hk]
 have A3:=hZq ((oth w.heap.size (by omega)).trans A.out)
 have R3:=hZq ((oth (w.heap.size+1+1) (by omega)).trans R.out)
 clear oth
 have y0f:=O.out.frozenAt (m * 6)
 have y1f:=O.out.frozenAt (m * 6+1)
 have y2f:=O.out.frozenAt (m * 6+2)
 have y3f:=O.out.frozenAt (m * 6+3)
 have y4f:=O.out.frozenAt (m * 6+4)
 have y5f:=O.out.frozenAt (m * 6+5)
 obtain⟨y0,y1,y2,y3,y4,y5⟩:=cells6_of (O.out.row chgOK hlt)
 obtain⟨⟨q0,q1⟩,f0,f1⟩:=twoQ A.out
 obtain⟨⟨c_0,c_1,c_2,c_3,c_4,c_5⟩,⟨d_0,d_1,d_2,d_3,d_4,d_5⟩⟩:=sixQ C.out
 have hnn:(0:Int)≤(m:Int):=by omega
 have hli:(m:Int) < (l.length:Int):=by omega
 go_upto_region 10 with fail
 clear q0 q1 f0 f1 c_0 c_1 c_2 c_3 c_4 c_5 d_0 d_1 d_2 d_3 d_4 d_5 y0 y1 y2 y3 y4 y5 y0f y1f y2f y3f y4f y5f hnn hli A C R HB O
 generalize ((((((W2.setCell ⟨g,m * 6,none⟩ (.string ⟨c.toArray⟩)).setCell ⟨g,m * 6+1,none⟩ (.bool on)).setCell ⟨g,m * 6+2,none⟩ (.int .i64 a)).setCell ⟨g,m * 6+3,none⟩ (.int .i64 b)).setCell ⟨g,m * 6+4,none⟩ (.int .i64 d)).setCell ⟨g,m * 6+5,none⟩ (.string ⟨st.toArray⟩))=W3 at A3 R3 O3 B3 ⊢
 obtain⟨⟨q0,q1⟩,f0,f1⟩:=twoQ A3.out
 obtain⟨⟨r0,r1⟩,g0,g1⟩:=twoQ R3.out
 go_wp2_with fail
 obtain⟨z0,z1⟩:=set2Q (y0:=.slice (some ⟨g,0,none⟩) l.length cg) (y1:=.bool false) R3.out
 have hle:w.heap.size≤w.heap.size+1+1:=by omega
 exact bodyPost_ret (v:=.agg #[.slice (some ⟨g,0,none⟩) l.length cg,.bool false]) (by simp [results,Try.results21,go_sem,z0,z1]) rfl ⟨_,rfl,ownS_low (ownQ_other (ownQ_other O3.out hR _ _) hR _ _) (Nat.le_of_lt hA),(B3.out.setCell hle _).setCell hle _⟩

theorem qupush_4 {w:World} {v:Value} {l:List Chg} (hv:Chgs w v l) (hl:l.length≤1000) (c st:List UInt8) (on:Bool) (a b d:Int) (room:Int) (hh:quHas l c=false) (hr:(l.length:Int) < room) :
  Calls Try.prog 21 #[.agg #[v,.bool false],.agg #[.string ⟨c.toArray⟩,.bool on,.int .i64 a,.int .i64 b,.int .i64 d,.string ⟨st.toArray⟩],.int .i64 room] w fun e w' => ∃ u,e=.returned (.agg #[u,.bool false])∧OwnQ w' w.heap.size u (l ++ [⟨c,on,⟨a,b,d,st⟩⟩])∧Below w.heap.size w w':=by
 obtain⟨ao,cap,rfl,hmx⟩:=hv.open'
 have b0:=bl_newZ w (.cells #[.slice ao l.length cap,.bool false] 29)
 have b1:=bl_newZ (w.alloc (.cells #[.slice ao l.length cap,.bool false] 29)) (.cells #[.string ⟨c.toArray⟩,.bool on,.int .i64 a,.int .i64 b,.int .i64 d,.string ⟨st.toArray⟩] 42)
 have b2:=bl_newZ ((w.alloc (.cells #[.slice ao l.length cap,.bool false] 29)).alloc (.cells #[.string ⟨c.toArray⟩,.bool on,.int .i64 a,.int .i64 b,.int .i64 d,.string ⟨st.toArray⟩] 42)) (.cells #[.slice none 0 0,.bool false] 29)
 have HB:=hZq (below2Z (below2Z b0 b1) b2)
 have V:=hZq (((hv.later b0).later b1).later b2)
 have A:=hZq (upQ (upQ (newQ w (.cells #[.slice ao l.length cap,.bool false] 29)) b1) b2)
 have C:=newQ (w.alloc (.cells #[.slice ao l.length cap,.bool false] 29)) (.cells #[.string ⟨c.toArray⟩,.bool on,.int .i64 a,.int .i64 b,.int .i64 d,.string ⟨st.toArray⟩] 42)
 rw [World.size_alloc] at C
 replace C:=hZq (upQ C b2)
 have R:=newQ ((w.alloc (.cells #[.slice ao l.length cap,.bool false] 29)).alloc (.cells #[.string ⟨c.toArray⟩,.bool on,.int .i64 a,.int .i64 b,.int .i64 d,.string ⟨st.toArray⟩] 42)) (.cells #[.slice none 0 0,.bool false] 29)
 rw [World.size_alloc,World.size_alloc] at R
 replace R:=hZq R
 clear b0 b1 b2 hv
 have HH:=hZq hh
 have t1:decide (room≤(l.length:Int))=false:=decide_eq_false (by omega)
 have t2:decide ((l.length:Int) < room)=true:=decide_eq_true hr
 clear hh hr
 obtain⟨⟨q0,q1⟩,f0,f1⟩:=twoQ A.out
 obtain⟨⟨c_0,c_1,c_2,c_3,c_4,c_5⟩,⟨d_0,d_1,d_2,d_3,d_4,d_5⟩⟩:=sixQ C.out
 obtain⟨⟨r0,r1⟩,g0,g1⟩:=twoQ R.out
 go_enter Try.func21,Try.ntmps21
 go_wp2_with fail
 clear q0 q1 f0 f1 c_0 c_1 c_2 c_3 c_4 c_5 d_0 d_1 d_2 d_3 d_4 d_5 r0 r1 g0 g1
 refine (quplace_no V.out c HH.out).mono ?_
 rintro e w1 ⟨rfl,b1⟩
 replace V:=hZq (V.out.later b1)
 replace A:=hZq (upQ A.out b1)
 replace C:=hZq (upQ C.out b1)
 replace R:=hZq (upQ R.out b1)
 replace HB:=hZq (below2Z HB.out b1)
 clear b1
 obtain⟨⟨q0,q1⟩,f0,f1⟩:=twoQ A.out
 obtain⟨⟨c_0,c_1,c_2,c_3,c_4,c_5⟩,⟨d_0,d_1,d_2,d_3,d_4,d_5⟩⟩:=sixQ C.out
 obtain⟨⟨r0,r1⟩,g0,g1⟩:=twoQ R.out
 go_wp2_with fail
 clear q0 q1 f0 f1 c_0 c_1 c_2 c_3 c_4 c_5 d_0 d_1 d_2 d_3 d_4 d_5 r0 r1 g0 g1
 have hA:=(Array.getElem?_eq_some_iff.1 A.out).1
 have hR:=(Array.getElem?_eq_some_iff.1 R.out).1
 refine (chg_clone V.out.rdS (by omega)).mono ?_
 rintro e w2 ⟨u,rfl,ho,b2⟩
 replace A:=hZq (upQ A.out b2)
 replace C:=hZq (upQ C.out b2)
 replace R:=hZq (upQ R.out b2)
 replace HB:=hZq (below2Z HB.out b2)
 have hz2:=b2.size
 clear b2
 obtain⟨ga,cg,rfl⟩:=ownQ_shape ho
 have O:=hZq ho
 clear ho
 obtain⟨⟨q0,q1⟩,f0,f1⟩:=twoQ A.out
 obtain⟨⟨c_0,c_1,c_2,c_3,c_4,c_5⟩,⟨d_0,d_1,d_2,d_3,d_4,d_5⟩⟩:=sixQ C.out
 obtain⟨⟨r0,r1⟩,g0,g1⟩:=twoQ R.out
 go_upto_region 9 with fail
 have A2:=heap_setCell_same w2 w.heap.size 0 _ _ (.slice ga l.length cg) A.out
 replace C:=hZq ((Below.heap_setCell w2 ⟨w.heap.size,0,none⟩ (.slice ga l.length cg) (w.heap.size+1) (by show ¬ w.heap.size+1=w.heap.size; omega)).trans C.out)
 replace R:=hZq ((Below.heap_setCell w2 ⟨w.heap.size,0,none⟩ (.slice ga l.length cg) (w.heap.size+1+1) (by show ¬ w.heap.size+1+1=w.heap.size; omega)).trans R.out)
 replace O:=hZq (ownQ_other O.out hA 0 (.slice ga l.length cg))
 replace HB:=hZq (HB.out.setCell (p:=⟨w.heap.size,0,none⟩) (Nat.le_refl _) (.slice ga l.length cg))
 have hz3:w1.heap.size≤(w2.setCell ⟨w.heap.size,0,none⟩ (.slice ga l.length cg)).heap.size:=by simpa using hz2
 replace A:=hZq (show _=some (Obj.cells #[.slice ga l.length cg,.bool false] 29 (0,0)) from A2)
 clear A2 q0 q1 f0 f1 c_0 c_1 c_2 c_3 c_4 c_5 d_0 d_1 d_2 d_3 d_4 d_5 r0 r1 g0 g1
 generalize w2.setCell ⟨w.heap.size,0,none⟩ (.slice ga l.length cg)=W2 at A C R O HB hz3 ⊢
 have O2:=hZq (OwnS.alloc O.out (.cells #[.string ⟨c.toArray⟩,.bool on,.int .i64 a,.int .i64 b,.int .i64 d,.string ⟨st.toArray⟩] 42))
 have HB2:=hZq (below2Z HB.out (bl_newZ W2 (.cells #[.string ⟨c.toArray⟩,.bool on,.int .i64 a,.int .i64 b,.int .i64 d,.string ⟨st.toArray⟩] 42)))
 have C4:=hZq (srcS_new (vals:=chgVals) (w:=W2) (r:=⟨c,on,⟨a,b,d,st⟩⟩) (cs:=#[.string ⟨c.toArray⟩,.bool on,.int .i64 a,.int .i64 b,.int .i64 d,.string ⟨st.toArray⟩]) (e:=42) rfl (B:=W2.heap.size) rfl)
 have hz2:=HB2.out.size
 have A4:=hZq (upQ A.out (bl_newZ W2 (.cells #[.string ⟨c.toArray⟩,.bool on,.int .i64 a,.int .i64 b,.int .i64 d,.string ⟨st.toArray⟩] 42)))
 have R4:=hZq (upQ R.out (bl_newZ W2 (.cells #[.string ⟨c.toArray⟩,.bool on,.int .i64 a,.int .i64 b,.int .i64 d,.string ⟨st.toArray⟩] 42)))
 obtain⟨⟨q0,q1⟩,f0,f1⟩:=twoQ A.out
 obtain⟨⟨c_0,c_1,c_2,c_3,c_4,c_5⟩,⟨d_0,d_1,d_2,d_3,d_4,d_5⟩⟩:=sixQ C.out
 go_wp2_with (at_builtin; refine wpList_append_S chgOK rfl _ _ rfl w1.heap.size _ l rfl O2.out (some ⟨W2.heap.size,0,none⟩) 1 1 [⟨c,on,⟨a,b,d,st⟩⟩] rfl rfl (fun e => by cases e) C4.out (by simp only [List.length_cons,List.length_nil]; omega) (by rw [World.size_alloc]; omega) ?_)
 intro v' w3 ho' hb'
 have A5:=hZq ((hb'.block _ hA).trans A4.out)
 have R5:=hZq ((hb'.block _ hR).trans R4.out)
 have HB5:=hZq (HB2.out.trans (hb'.mono (Nat.le_of_lt hA)))
 obtain⟨gv,cv,rfl⟩ : ∃ a c,v'=.slice a (l.length+1) c:=by obtain⟨a',c',e⟩:=ownQ_shape ho'; exact⟨a',c',by rw [e,List.length_append]; rfl⟩
 have O5:=hZq ho'
 clear ho' hb' O2 HB2 C4 A4 R4 A C R O HB q0 q1 f0 f1 c_0 c_1 c_2 c_3 c_4 c_5 d_0 d_1 d_2 d_3 d_4 d_5
 obtain⟨⟨q0,q1⟩,f0,f1⟩:=twoQ A5.out
 go_upto_region 10 with fail
 have A6:=hZq (show _=some (Obj.cells #[.slice gv (l.length+1) cv,.bool false] 29 (0,0)) from heap_setCell_same w3 w.heap.size 0 _ _ (.slice gv (l.length+1) cv) A5.out)
 have R6:=hZq ((Below.heap_setCell w3 ⟨w.heap.size,0,none⟩ (.slice gv (l.length+1) cv) (w.heap.size+1+1) (by show ¬ w.heap.size+1+1=w.heap.size; omega)).trans R5.out)
 have O6:=hZq (ownQ_other O5.out hA 0 (.slice gv (l.length+1) cv))
 have HB6:=hZq (HB5.out.setCell (p:=⟨w.heap.size,0,none⟩) (Nat.le_refl _) (.slice gv (l.length+1) cv))
 clear A5 R5 O5 HB5 q0 q1 f0 f1
 generalize (w3.setCell ⟨w.heap.size,0,none⟩ (.slice gv (l.length+1) cv))=W6 at A6 R6 O6 HB6 ⊢
 obtain⟨⟨q0,q1⟩,f0,f1⟩:=twoQ A6.out
 obtain⟨⟨r0,r1⟩,g0,g1⟩:=twoQ R6.out
 go_wp2_with fail
 obtain⟨z0,z1⟩:=set2Q (y0:=.slice gv (l.length+1) cv) (y1:=.bool false) R6.out
 have hle:w.heap.size≤w.heap.size+1+1:=by omega
 exact bodyPost_ret (v:=.agg #[.slice gv (l.length+1) cv,.bool false]) (by simp [results,Try.results21,go_sem,z0,z1]) rfl ⟨_,rfl,ownS_low (ownQ_other (ownQ_other O6.out hR _ _) hR _ _) (Nat.le_of_lt hA),(HB6.out.setCell hle _).setCell hle _⟩

end Go.Proofs.Ytfocooajnignbaa
end

section
namespace Go.Proofs.Ytfocooajnignbaa
open Go.RowKit

end Go.Proofs.Ytfocooajnignbaa
end

section
namespace Go.Proofs.Ytfocooajnignbaa
open Go.RowKit

def csSame (a b:List Chg):Bool:=decide (a.length=b.length) && (List.range a.length).all fun i => cSame (a.getD i Chg.zero) (b.getD i Chg.zero)

theorem csSame_self (a:List Chg):csSame a a=true:=by
 unfold csSame
 simp only [decide_true,Bool.true_and,List.all_eq_true]
 intro i _
 exact cSame_self _

theorem csSame_len {a b:List Chg} (h:¬ a.length=b.length):csSame a b=false:=by
 unfold csSame
 simp [h]

theorem csSame_off {a b:List Chg} {k:Nat} (hk:k < a.length) (h:cSame (a.getD k Chg.zero) (b.getD k Chg.zero)=false):csSame a b=false:=by
 rw [Bool.eq_false_iff]
 intro h'
 unfold csSame at h'
 rw [Bool.and_eq_true,List.all_eq_true] at h'
 rw [h'.2 k (by simpa using hk)] at h
 cases h

theorem csSame_on {a b:List Chg} (hl:a.length=b.length) (h:(List.range a.length).all (fun i => cSame (a.getD i Chg.zero) (b.getD i Chg.zero))=true):csSame a b=true:=by
 unfold csSame
 rw [h]
 simp [hl]

theorem csSame_next {t u:List Chg} {k:Nat} (h:(List.range k).all (fun i => cSame (t.getD i Chg.zero) (u.getD i Chg.zero))=true) (hk:cSame (t.getD k Chg.zero) (u.getD k Chg.zero)=true) :
  (List.range (k+1)).all (fun i => cSame (t.getD i Chg.zero) (u.getD i Chg.zero))=true:=range_all_succ h hk

theorem csame_any {w:World} {v u:Value} {t s:List Chg} (hv:Chgs w v t) (hu:Chgs w u s) :
  Calls Try.prog 44 #[v,u] w fun e w' => e=.returned (.bool (csSame t s))∧Below w.heap.size w w':=by
 have HV:=hZq hv
 have HU:=hZq hu
 obtain⟨a,cap,rfl,hm⟩:=hv.open'
 obtain⟨a2,cap2,rfl,hm2⟩:=hu.open'
 clear hv hu
 by_cases hl:t.length=s.length
 ·have HL:=hZq hl
  have t1:((t.length:Int) != (s.length:Int))=false:=by simp [hl]
  clear hl
  go_enter Try.func44,Try.ntmps44
  go_wp2_with fail
  go_loopw [5] (fun i wr => ∃ k:Nat,k≤t.length∧i=.int .i64 k∧Hid (Below w.heap.size w wr)∧Hid ((List.range k).all (fun i => cSame (t.getD i Chg.zero) (s.getD i Chg.zero))=true)) (fun i _ => t.length - (intOf i).toNat)
  case atStart => exact⟨0,by omega,rfl,Below.refl _ _,by show _=_; simp⟩
  case round =>
   obtain⟨k,hk,rfl,HN,HA⟩:=hrel
   by_cases hlt:k < t.length
   ·obtain⟨b,off,rfl,h0,h1,h2,h3,h4,h5⟩:=HV.out.row HN.out k hlt
    obtain⟨b2,off2,rfl,i0,i1,i2,i3,i4,i5⟩:=HU.out.row HN.out k (by rw [← HL.out]; exact hlt)
    have hlt2:k < s.length:=by rw [← HL.out]; exact hlt
    obtain⟨⟨c,o,⟨x,y,z,st⟩⟩,hr⟩ : ∃ r,t.getD k Chg.zero=r:=⟨_,rfl⟩
    obtain⟨⟨c',o',⟨x',y',z',st'⟩⟩,hr'⟩ : ∃ r,s.getD k Chg.zero=r:=⟨_,rfl⟩
    rw [hr] at h0 h1 h2 h3 h4 h5
    rw [hr'] at i0 i1 i2 i3 i4 i5
    have hgd:Try.prog.eqGuardType Try.prog.depth 42=false:=by kernel_rfl
    have hne:=chg_neq6 c c' o o' x y z x' y' z' st st'
    cases hs:cSame ⟨c,o,x,y,z,st⟩ ⟨c',o',x',y',z',st'⟩ with
    | false =>
     have HR:Hid (csSame t s=false):=by show _=_; exact csSame_off hlt (by rw [hr,hr']; exact hs)
     rw [hs] at hne
     simp only at h0 h1 h2 h3 h4 h5 i0 i1 i2 i3 i4 i5
     clear hr hr' hs
     go_wp2_with fail
     go_region
     go_wp2_with fail
     go_ret
     exact⟨by rw [HR.out]; rfl,HN.out.drew⟩
    | true =>
     have HA2:Hid ((List.range (k+1)).all (fun i => cSame (t.getD i Chg.zero) (s.getD i Chg.zero))=true):=by show _=_; exact csSame_next HA.out (by rw [hr,hr']; exact hs)
     rw [hs] at hne
     simp only at h0 h1 h2 h3 h4 h5 i0 i1 i2 i3 i4 i5
     clear hr hr' hs
     go_wp2_with fail
     go_region
     go_wp2_with fail
     go_roundw
     case rel => exact⟨k+1,by omega,by go_num,HN.out.drew,HA2⟩
     case measure => simp [intOf]; omega
   ·obtain rfl:k=t.length:=by omega
    have HR:Hid (csSame t s=true):=by show _=_; exact csSame_on HL.out HA.out
    go_wp2_with fail
    go_ret
    exact⟨by rw [HR.out]; rfl,HN.out⟩
 ·have HR:=hZq (csSame_len hl)
  have t1:((t.length:Int) != (s.length:Int))=true:=by simp; omega
  clear hl
  go_enter Try.func44,Try.ntmps44
  go_wp2_with fail
  go_ret
  exact⟨by rw [HR.out]; rfl,Below.refl _ _⟩

end Go.Proofs.Ytfocooajnignbaa
end

section
namespace Go.Proofs.Ytfocooajnignbaa
open Go.RowKit

theorem qupush_any {w:World} {v:Value} {l:List Chg} (hv:Chgs w v l) (hl:l.length≤1000) (la:Bool) (c st:List UInt8) (on:Bool) (a b d:Int) (room:Int) {ql:List Chg} {qa:Bool} (hr:Hid (quPush ⟨l,la⟩ ⟨c,on,⟨a,b,d,st⟩⟩ room=⟨ql,qa⟩)) :
  Calls Try.prog 21 #[.agg #[v,.bool la],.agg #[.string ⟨c.toArray⟩,.bool on,.int .i64 a,.int .i64 b,.int .i64 d,.string ⟨st.toArray⟩],.int .i64 room] w fun e w' => ∃ u,e=.returned (.agg #[u,.bool qa])∧Chgs w' u ql∧Below w.heap.size w w':=by
 have hr:=hr.out
 rcases quPush_ways ⟨l,la⟩ ⟨c,on,⟨a,b,d,st⟩⟩ room with ⟨h1,e⟩ | ⟨h1,h2,e⟩ | ⟨h1,h2,h3,e⟩ | ⟨h1,h2,h3,e⟩
 ·rw [e] at hr
  simp only [Que.mk.injEq] at hr h1
  obtain⟨rfl,rfl⟩:=hr
  subst h1
  exact (qupush_1 hv c st on a b d room).mono fun e w' ⟨he,hb⟩ => ⟨v,he,hv.later hb,hb⟩
 ·rw [e] at hr
  simp only [Que.mk.injEq] at hr h1 h2
  obtain⟨rfl,rfl⟩:=hr
  subst h1
  exact (qupush_3 hv hl c st on a b d room h2).mono fun e w' ⟨u,he,ho,hb⟩ => ⟨u,he,ho.chgs,hb⟩
 ·rw [e] at hr
  simp only [Que.mk.injEq] at hr h1 h2 h3
  obtain⟨rfl,rfl⟩:=hr
  subst h1
  exact (qupush_4 hv hl c st on a b d room h2 h3).mono fun e w' ⟨u,he,ho,hb⟩ => ⟨u,he,ho.chgs,hb⟩
 ·rw [e] at hr
  simp only [Que.mk.injEq] at hr h1 h2 h3
  obtain⟨rfl,rfl⟩:=hr
  subst h1
  exact (qupush_2 hv hl c st on a b d room h2 h3).mono fun e w' ⟨he,hb⟩ => ⟨_,he,chgs_nil _,hb⟩

def fewC (l:List Chg) (n:Int):Bool:=decide ((l.length:Int)≤n) && l.all fun c => decide (c.c.length≤60) && decide (c.v.st.length≤100)

theorem fewC_get {l:List Chg} {n:Int} (h:fewC l n=true):(l.length:Int)≤n∧∀ c ∈ l,c.c.length≤60∧c.v.st.length≤100:=by
 unfold fewC at h
 simp only [Bool.and_eq_true,decide_eq_true_eq,List.all_eq_true] at h
 exact h
theorem fewC_long {l:List Chg} {n:Int} (h:n < (l.length:Int)):fewC l n=false:=by
 rw [Bool.eq_false_iff]
 intro e
 have:=(fewC_get e).1
 omega
theorem fewC_off {l:List Chg} {n:Int} {k:Nat} (hk:k < l.length) (h:60 < (l.getD k Chg.zero).c.length∨100 < (l.getD k Chg.zero).v.st.length):fewC l n=false:=by
 rw [Bool.eq_false_iff]
 intro e
 have:=(fewC_get e).2 _ (List.getElem_mem hk)
 rw [List.getD_eq_getElem?_getD,List.getElem?_eq_getElem hk] at h
 simp only [Option.getD_some] at h
 omega
theorem fewC_on {l:List Chg} {n:Int} (h1:(l.length:Int)≤n) (h2:∀ k,k < l.length→(l.getD k Chg.zero).c.length≤60∧(l.getD k Chg.zero).v.st.length≤100):fewC l n=true:=by
 unfold fewC
 simp only [Bool.and_eq_true,decide_eq_true_eq,List.all_eq_true]
 refine ⟨h1,fun c hc => ?_⟩
 obtain⟨k,hk,rfl⟩:=List.getElem_of_mem hc
 have:=h2 k hk
 rwa [List.getD_eq_getElem?_getD,List.getElem?_eq_getElem hk] at this

theorem fewc_any {w:World} {v:Value} {l:List Chg} (hv:Chgs w v l) (n:Int) {r:Bool} (hr:Hid (fewC l n=r)) :
  Calls Try.prog 4 #[v,.int .i64 n] w fun e w' => e=.returned (.bool r)∧Below w.heap.size w w':=by
 have HR:=hr
 have HV:=hZq hv
 obtain⟨ao,cap,rfl,hmx⟩:=hv.open'
 clear hv hr
 by_cases hn:n < (l.length:Int)
 ·have HF:=hZq (fewC_long hn)
  have t1:decide (n < (l.length:Int))=true:=decide_eq_true hn
  obtain rfl:false=r:=by rw [← HR.out,HF.out]
  clear hn HR HF
  go_enter Try.func4,Try.ntmps4
  go_wp2_with fail
  go_ret
  exact⟨rfl,Below.refl _ _⟩
 ·have t1:decide (n < (l.length:Int))=false:=decide_eq_false hn
  have HN:Hid ((l.length:Int)≤n):=hZq (by omega)
  clear hn
  go_enter Try.func4,Try.ntmps4
  go_wp2_with fail
  clear t1
  go_loopw [5] (fun i wr => ∃ k:Nat,k≤l.length∧i=.int .i64 k∧Hid (Below w.heap.size w wr)∧Hid (∀ i,i < k→(l.getD i Chg.zero).c.length≤60∧(l.getD i Chg.zero).v.st.length≤100)) (fun i _ => l.length - (intOf i).toNat)
  case atStart => exact⟨0,by omega,rfl,Below.refl _ _,fun i hi => by omega⟩
  case round =>
   obtain⟨k,hk,rfl,HB,HA⟩:=hrel
   by_cases hlk:k < l.length
   ·obtain⟨b,off,rfl,h0,h1,h2,h3,h4,h5⟩:=HV.out.row HB.out k hlk
    obtain⟨⟨c,on,⟨x,y,z,st⟩⟩,hr⟩ : ∃ r,l.getD k Chg.zero=r:=⟨_,rfl⟩
    rw [hr] at h0 h1 h2 h3 h4 h5
    simp only at h0 h1 h2 h3 h4 h5
    by_cases hc:60 < c.length
    ·obtain rfl:false=r:=by rw [← HR.out]; exact (fewC_off hlk (.inl (by rw [hr]; exact hc))).symm
     have t2:decide ((60:Int) < (c.length:Int))=true:=decide_eq_true (by omega)
     have t3:decide (60 < c.length)=true:=decide_eq_true hc
     clear hr hc
     go_wp2_with fail
     go_ret
     exact⟨rfl,HB.out⟩
    ·by_cases hs:100 < st.length
     ·obtain rfl:false=r:=by rw [← HR.out]; exact (fewC_off hlk (.inr (by rw [hr]; exact hs))).symm
      have t2:decide ((60:Int) < (c.length:Int))=false:=decide_eq_false (by omega)
      have t3:decide (60 < c.length)=false:=decide_eq_false hc
      have t4:decide ((100:Int) < (st.length:Int))=true:=decide_eq_true (by omega)
      have t5:decide (100 < st.length)=true:=decide_eq_true hs
      clear hr hc hs
      go_wp2_with fail
      go_ret
      exact⟨rfl,HB.out⟩
     ·have HA2:Hid (∀ i,i < k+1→(l.getD i Chg.zero).c.length≤60∧(l.getD i Chg.zero).v.st.length≤100):=hZq fun i hi => by
       rcases Nat.lt_or_eq_of_le (Nat.le_of_lt_succ hi) with h | h
       ·exact HA.out i h
       ·subst h; rw [hr]; exact⟨Nat.le_of_not_lt hc,Nat.le_of_not_lt hs⟩
      have t2:decide ((60:Int) < (c.length:Int))=false:=decide_eq_false (by omega)
      have t3:decide (60 < c.length)=false:=decide_eq_false hc
      have t4:decide ((100:Int) < (st.length:Int))=false:=decide_eq_false (by omega)
      have t5:decide (100 < st.length)=false:=decide_eq_false hs
      have HB2:=HB
      clear hr hc hs
      go_wp2_with fail
      go_roundw
      case rel => exact⟨k+1,by omega,by go_num,HB2,HA2⟩
      case measure => simp [intOf]; omega
   ·obtain rfl:k=l.length:=by omega
    obtain rfl:true=r:=by rw [← HR.out]; exact (fewC_on HN.out HA.out).symm
    go_wp2_with fail
    go_ret
    exact⟨rfl,HB.out⟩

def quSame (p q:Que):Bool:=(p.la == q.la) && csSame p.l q.l
theorem quSame_self (q:Que):quSame q q=true:=by unfold quSame; rw [csSame_self]; simp

theorem qusame_any {w:World} {v u:Value} {l m:List Chg} (hv:Chgs w v l) (hu:Chgs w u m) (la lb:Bool) {r:Bool} (hr:Hid (quSame ⟨l,la⟩ ⟨m,lb⟩=r)) :
  Calls Try.prog 26 #[.agg #[v,.bool la],.agg #[u,.bool lb]] w fun e w' => e=.returned (.bool r)∧Below w.heap.size w w':=by
 have hr:=hr.out
 unfold quSame at hr
 simp only at hr
 obtain⟨ao,cap,rfl,hmx⟩:=hv.open'
 obtain⟨bo,cbp,rfl,hmy⟩:=hu.open'
 have b0:=bl_newZ w (.cells #[.slice ao l.length cap,.bool la] 29)
 have b1:=bl_newZ (w.alloc (.cells #[.slice ao l.length cap,.bool la] 29)) (.cells #[.slice bo m.length cbp,.bool lb] 29)
 have HB:=hZq (below2Z b0 b1)
 have V:=hZq ((hv.later b0).later b1)
 have U:=hZq ((hu.later b0).later b1)
 clear b0 b1 hv hu
 cases hx:(la == lb) with
 | false =>
  rw [hx,Bool.false_and] at hr
  subst hr
  go_enter Try.func26,Try.ntmps26
  go_wp2_with fail
  go_ret
  exact⟨rfl,HB.out⟩
 | true =>
  rw [hx,Bool.true_and] at hr
  have HS:=csame_any V.out U.out
  rw [hr] at HS
  have HS:=hZq HS
  clear hr
  go_enter Try.func26,Try.ntmps26
  go_wp2_with fail
  refine HS.out.mono ?_
  rintro e w1 ⟨rfl,b1⟩
  replace HB:=hZq (below2Z HB.out b1)
  clear b1
  go_wp2_with fail
  go_ret
  exact⟨rfl,HB.out⟩

end Go.Proofs.Ytfocooajnignbaa
end

section
namespace Go.Proofs.Ytfocooajnignbaa
open Go.RowKit

theorem qupop_no {w:World} {v:Value} {l:List Chg} (hv:Chgs w v l) (la:Bool) (h0:l=[]) :
  Calls Try.prog 50 #[.agg #[v,.bool la]] w fun e w' => e=.returned (.tuple #[.agg #[.string ⟨#[]⟩,.bool false,.int .i64 0,.int .i64 0,.int .i64 0,.string ⟨#[]⟩],.agg #[v,.bool la],.bool false])∧Below w.heap.size w w':=by
 obtain⟨ao,cap,rfl,_hmx⟩:=hv.open'
 have HW:=hZq hv
 have b0:=bl_newZ w (.cells #[.slice ao l.length cap,.bool la] 29)
 have b1:=bl_newZ (w.alloc (.cells #[.slice ao l.length cap,.bool la] 29)) (.cells #[.string ⟨#[]⟩,.bool false,.int .i64 0,.int .i64 0,.int .i64 0,.string ⟨#[]⟩] 42)
 have b2:=bl_newZ ((w.alloc (.cells #[.slice ao l.length cap,.bool la] 29)).alloc (.cells #[.string ⟨#[]⟩,.bool false,.int .i64 0,.int .i64 0,.int .i64 0,.string ⟨#[]⟩] 42)) (.cells #[.slice none 0 0,.bool false] 29)
 have HB:=hZq (below2Z (below2Z b0 b1) b2)
 have V:=hZq (((hv.later b0).later b1).later b2)
 have A:=hZq (upQ (upQ (newQ w (.cells #[.slice ao l.length cap,.bool la] 29)) b1) b2)
 have C:=newQ (w.alloc (.cells #[.slice ao l.length cap,.bool la] 29)) (.cells #[.string ⟨#[]⟩,.bool false,.int .i64 0,.int .i64 0,.int .i64 0,.string ⟨#[]⟩] 42)
 rw [World.size_alloc] at C
 replace C:=hZq (upQ C b2)
 have R:=newQ ((w.alloc (.cells #[.slice ao l.length cap,.bool la] 29)).alloc (.cells #[.string ⟨#[]⟩,.bool false,.int .i64 0,.int .i64 0,.int .i64 0,.string ⟨#[]⟩] 42)) (.cells #[.slice none 0 0,.bool false] 29)
 rw [World.size_alloc,World.size_alloc] at R
 replace R:=hZq R
 clear b0 b1 b2 hv
 have hl0:l.length=0:=by rw [h0]; rfl
 have t1:((l.length:Int) == 0)=true:=by rw [hl0]; rfl
 clear h0 hl0
 obtain⟨⟨q0,q1⟩,f0,f1⟩:=twoQ A.out
 obtain⟨⟨p0,p1,p2,p3,p4,p5⟩,⟨s0,s1,s2,s3,s4,s5⟩⟩:=sixQ C.out
 obtain⟨⟨r0,r1⟩,g0,g1⟩:=twoQ R.out
 go_enter Try.func50,Try.ntmps50
 go_wp2_with fail
 go_region
 go_wp2_with fail
 refine bodyPost_ret (v:=.tuple #[.agg #[.string ⟨#[]⟩,.bool false,.int .i64 0,.int .i64 0,.int .i64 0,.string ⟨#[]⟩],.agg #[.slice ao l.length cap,.bool la],.bool false]) (by simp [results,Try.results50,go_sem]) rfl ⟨rfl,?_⟩
 exact ((((Below.refl _ _).alloc (Nat.le_refl _) _).alloc (by simp) _).alloc (by simp; omega) _).drew

theorem qupop_yes {w:World} {v:Value} {l:List Chg} (hv:Chgs w v l) (hl:l.length≤1000) (la:Bool) (hpos:1≤l.length) {c st:List UInt8} {on:Bool} {a b d:Int} (hg:l.getD 0 Chg.zero=⟨c,on,⟨a,b,d,st⟩⟩) :
  Calls Try.prog 50 #[.agg #[v,.bool la]] w fun e w' => ∃ u,e=.returned (.tuple #[.agg #[.string ⟨c.toArray⟩,.bool on,.int .i64 a,.int .i64 b,.int .i64 d,.string ⟨st.toArray⟩],.agg #[u,.bool la],.bool true])∧Chgs w' u (l.drop 1)∧Below w.heap.size w w':=by
 obtain⟨ao,cap,rfl,_hmx⟩:=hv.open'
 have HW:=hZq hv
 have b0:=bl_newZ w (.cells #[.slice ao l.length cap,.bool la] 29)
 have b1:=bl_newZ (w.alloc (.cells #[.slice ao l.length cap,.bool la] 29)) (.cells #[.string ⟨#[]⟩,.bool false,.int .i64 0,.int .i64 0,.int .i64 0,.string ⟨#[]⟩] 42)
 have b2:=bl_newZ ((w.alloc (.cells #[.slice ao l.length cap,.bool la] 29)).alloc (.cells #[.string ⟨#[]⟩,.bool false,.int .i64 0,.int .i64 0,.int .i64 0,.string ⟨#[]⟩] 42)) (.cells #[.slice none 0 0,.bool false] 29)
 have HB:=hZq (below2Z (below2Z b0 b1) b2)
 have V:=hZq (((hv.later b0).later b1).later b2)
 have A:=hZq (upQ (upQ (newQ w (.cells #[.slice ao l.length cap,.bool la] 29)) b1) b2)
 have C:=newQ (w.alloc (.cells #[.slice ao l.length cap,.bool la] 29)) (.cells #[.string ⟨#[]⟩,.bool false,.int .i64 0,.int .i64 0,.int .i64 0,.string ⟨#[]⟩] 42)
 rw [World.size_alloc] at C
 replace C:=hZq (upQ C b2)
 have R:=newQ ((w.alloc (.cells #[.slice ao l.length cap,.bool la] 29)).alloc (.cells #[.string ⟨#[]⟩,.bool false,.int .i64 0,.int .i64 0,.int .i64 0,.string ⟨#[]⟩] 42)) (.cells #[.slice none 0 0,.bool false] 29)
 rw [World.size_alloc,World.size_alloc] at R
 replace R:=hZq R
 clear b0 b1 b2 hv
 have t1:((l.length:Int) == 0)=false:=by rw [beq_eq_false_iff_ne]; omega
 obtain⟨bk,off,rfl,h0,h1,h2,h3,h4,h5⟩:=V.out.row (Below.refl _ _) 0 hpos
 rw [hg] at h0 h1 h2 h3 h4 h5
 simp only [Nat.zero_mul,Nat.add_zero] at h0 h1 h2 h3 h4 h5
 have hsl:=fun w => run_slice_from_S chgOK w ⟨bk,off,none⟩ l.length cap 1 1 rfl hpos
 have VT:=hZq (RdS.tail V.out.rdS (by decide) 1 hpos)
 have VW:=hZq (RdS.tail HW.out.rdS (by decide) 1 hpos)
 obtain⟨ad,had⟩ : ∃ ad,(if cap=1 then (⟨bk,off,none⟩ : Addr) else (⟨bk,off,none⟩ : Addr).add (1 * 6))=ad:=⟨_,rfl⟩
 rw [had] at VT VW
 simp only [had] at hsl
 have HG:=hZq hg
 clear had hg
 obtain⟨⟨q0,q1⟩,f0,f1⟩:=twoQ A.out
 obtain⟨⟨p0,p1,p2,p3,p4,p5⟩,⟨s0,s1,s2,s3,s4,s5⟩⟩:=sixQ C.out
 obtain⟨⟨r0,r1⟩,g0,g1⟩:=twoQ R.out
 go_enter Try.func50,Try.ntmps50
 go_upto_region 4 with fail
 clear q0 q1 f0 f1 p0 p1 p2 p3 p4 p5 s0 s1 s2 s3 s4 s5 r0 r1 g0 g1 h0 h1 h2 h3 h4 h5
 have D:=newQ (((w.alloc (.cells #[.slice (some ⟨bk,off,none⟩) l.length cap,.bool la] 29)).alloc (.cells #[.string ⟨#[]⟩,.bool false,.int .i64 0,.int .i64 0,.int .i64 0,.string ⟨#[]⟩] 42)).alloc (.cells #[.slice none 0 0,.bool false] 29)) (.cells #[.string ⟨c.toArray⟩,.bool on,.int .i64 a,.int .i64 b,.int .i64 d,.string ⟨st.toArray⟩] 42)
 rw [World.size_alloc,World.size_alloc,World.size_alloc] at D
 replace D:=hZq D
 have b3:=bl_newZ (((w.alloc (.cells #[.slice (some ⟨bk,off,none⟩) l.length cap,.bool la] 29)).alloc (.cells #[.string ⟨#[]⟩,.bool false,.int .i64 0,.int .i64 0,.int .i64 0,.string ⟨#[]⟩] 42)).alloc (.cells #[.slice none 0 0,.bool false] 29)) (.cells #[.string ⟨c.toArray⟩,.bool on,.int .i64 a,.int .i64 b,.int .i64 d,.string ⟨st.toArray⟩] 42)
 replace A:=hZq (upQ A.out b3)
 replace C:=hZq (upQ C.out b3)
 replace R:=hZq (upQ R.out b3)
 replace VT:=hZq (RdS.later VT.out b3)
 replace HB:=hZq (below2Z HB.out b3)
 clear b3 V
 generalize (((w.alloc (.cells #[.slice (some ⟨bk,off,none⟩) l.length cap,.bool la] 29)).alloc (.cells #[.string ⟨#[]⟩,.bool false,.int .i64 0,.int .i64 0,.int .i64 0,.string ⟨#[]⟩] 42)).alloc (.cells #[.slice none 0 0,.bool false] 29)).alloc (.cells #[.string ⟨c.toArray⟩,.bool on,.int .i64 a,.int .i64 b,.int .i64 d,.string ⟨st.toArray⟩] 42)=W1 at A C R D VT HB ⊢
 have hA:=(Array.getElem?_eq_some_iff.1 A.out).1
 have hC:=(Array.getElem?_eq_some_iff.1 C.out).1
 have hR:=(Array.getElem?_eq_some_iff.1 R.out).1
 obtain⟨⟨q0,q1⟩,f0,f1⟩:=twoQ A.out
 go_wp2_with fail
 clear q0 q1 f0 f1
 refine (chg_clone VT.out (by rw [List.length_drop]; omega)).mono ?_
 rintro e w2 ⟨u,rfl,ho,b2⟩
 replace A:=hZq (upQ A.out b2)
 replace C:=hZq (upQ C.out b2)
 replace R:=hZq (upQ R.out b2)
 replace D:=hZq (upQ D.out b2)
 replace HB:=hZq (below2Z HB.out b2)
 clear b2 VT hsl
 obtain⟨ga,cg,rfl⟩:=ownQ_shape ho
 obtain⟨n1,hn1⟩ : ∃ n,(l.drop 1).length=n:=⟨_,rfl⟩
 rw [hn1] at ho ⊢
 have O:=hZq ho
 clear ho hn1
 obtain⟨⟨q0,q1⟩,f0,f1⟩:=twoQ A.out
 go_upto_region 5 with fail
 have A3:=hZq (show _=some (Obj.cells #[.slice ga n1 cg,.bool la] 29 (0,0)) from heap_setCell_same w2 w.heap.size 0 _ _ (.slice ga n1 cg) A.out)
 have C3:=hZq ((Below.heap_setCell w2 ⟨w.heap.size,0,none⟩ (.slice ga n1 cg) (w.heap.size+1) (by show ¬ w.heap.size+1=w.heap.size; omega)).trans C.out)
 have R3:=hZq ((Below.heap_setCell w2 ⟨w.heap.size,0,none⟩ (.slice ga n1 cg) (w.heap.size+1+1) (by show ¬ w.heap.size+1+1=w.heap.size; omega)).trans R.out)
 have D3:=hZq ((Below.heap_setCell w2 ⟨w.heap.size,0,none⟩ (.slice ga n1 cg) (w.heap.size+1+1+1) (by show ¬ w.heap.size+1+1+1=w.heap.size; omega)).trans D.out)
 have O3:=hZq (ownQ_other O.out hA 0 (.slice ga n1 cg))
 have HB3:=hZq (HB.out.setCell (p:=⟨w.heap.size,0,none⟩) (Nat.le_refl _) (.slice ga n1 cg))
 clear A C R D O HB q0 q1 f0 f1
 generalize w2.setCell ⟨w.heap.size,0,none⟩ (.slice ga n1 cg)=W3 at A3 C3 R3 D3 O3 HB3 ⊢
 obtain⟨⟨q0,q1⟩,f0,f1⟩:=twoQ A3.out
 obtain⟨⟨p0,p1,p2,p3,p4,p5⟩,⟨s0,s1,s2,s3,s4,s5⟩⟩:=sixQ C3.out
 obtain⟨⟨r0,r1⟩,g0,g1⟩:=twoQ R3.out
 obtain⟨⟨m0,m1,m2,m3,m4,m5⟩,⟨k0,k1,k2,k3,k4,k5⟩⟩:=sixQ D3.out
 go_wp2_with fail
 go_region
 go_wp2_with fail
 have hle1:w.heap.size≤w.heap.size+1:=by omega
 have hle2:w.heap.size≤w.heap.size+1+1:=by omega
 refine bodyPost_ret (v:=.tuple #[.agg #[.string ⟨c.toArray⟩,.bool on,.int .i64 a,.int .i64 b,.int .i64 d,.string ⟨st.toArray⟩],.agg #[.slice ga n1 cg,.bool la],.bool true]) (by simp [results,Try.results50,go_sem,p0,p1,p2,p3,p4,p5,r0,r1]) rfl ⟨_,rfl,?_,?_⟩
 ·exact OwnQ.chgs (OwnS.drew (ownQ_other (ownQ_other (ownQ_other (ownQ_other (ownQ_other (ownQ_other (ownQ_other (ownQ_other O3.out hC _ _) hC _ _) hC _ _) hC _ _) hC _ _) hC _ _) hR _ _) hR _ _))
 ·exact ((store6Q HB3.out hle1 0 1 2 3 4 5 _ _ _ _ _ _).setCell hle2 _ |>.setCell hle2 _).drew

theorem qupop_any {w:World} {v:Value} {l:List Chg} (hv:Chgs w v l) (hl:l.length≤1000) (la:Bool) {c st:List UInt8} {on k:Bool} {a b d:Int} {ql:List Chg} {qa:Bool} (hr:Hid (quPop ⟨l,la⟩=(⟨c,on,⟨a,b,d,st⟩⟩,⟨ql,qa⟩,k))) :
  Calls Try.prog 50 #[.agg #[v,.bool la]] w fun e w' => ∃ u,e=.returned (.tuple #[.agg #[.string ⟨c.toArray⟩,.bool on,.int .i64 a,.int .i64 b,.int .i64 d,.string ⟨st.toArray⟩],.agg #[u,.bool qa],.bool k])∧Chgs w' u ql∧Below w.heap.size w w':=by
 have hr:=hr.out
 unfold quPop at hr
 cases l with
 | nil =>
  simp only [Prod.mk.injEq,Que.mk.injEq,Chg.nought,Chg.mk.injEq,Val.zero,Val.mk.injEq] at hr
  obtain⟨⟨rfl,rfl,rfl,rfl,rfl,rfl⟩,⟨rfl,rfl⟩,rfl⟩:=hr
  exact (qupop_no hv la rfl).mono fun e w' ⟨he,hb⟩ => ⟨v,he,hv.later hb,hb⟩
 | cons x l =>
  simp only [Prod.mk.injEq,Que.mk.injEq] at hr
  obtain⟨hx,⟨rfl,rfl⟩,rfl⟩:=hr
  exact qupop_yes hv hl la (by simp) (by rw [← hx]; rfl)

end Go.Proofs.Ytfocooajnignbaa
end

section
namespace Go.Proofs.Ytfocooajnignbaa
open Go.RowKit

def Box6 (w:World) (b:Nat) (c:Chg):Prop :=
 w.cell? ⟨b,0,none⟩=some (.string ⟨c.c.toArray⟩)∧w.cell? ⟨b,1,none⟩=some (.bool c.on)∧w.cell? ⟨b,2,none⟩=some (.int .i64 c.v.sh)∧w.cell? ⟨b,3,none⟩=some (.int .i64 c.v.pr)∧w.cell? ⟨b,4,none⟩=some (.int .i64 c.v.si)∧w.cell? ⟨b,5,none⟩=some (.string ⟨c.v.st.toArray⟩)

theorem Box6.later {w w':World} {b:Nat} {c:Chg} (h:Box6 w b c) (hb:Below w.heap.size w w'):Box6 w' b c :=
 ⟨cell_later h.1 hb,cell_later h.2.1 hb,cell_later h.2.2.1 hb,cell_later h.2.2.2.1 hb,cell_later h.2.2.2.2.1 hb,cell_later h.2.2.2.2.2 hb⟩

end Go.Proofs.Ytfocooajnignbaa
end

section
namespace Go.Proofs.Ytfocooajnignbaa
open Go.RowKit

def lqA:Chg:=⟨[97],true,⟨4,0,0,[]⟩⟩
def lqB:Chg:=⟨[98],false,⟨0,0,0,[]⟩⟩
def lqC:Chg:=⟨[97],false,⟨0,0,0,[]⟩⟩
def lqE:Chg:=⟨[99],false,⟨0,0,0,[]⟩⟩
theorem chgs_shape {w:World} {v:Value} {l:List Chg} {n:Nat} (h:Chgs w v l) (hn:l.length=n):∃ a c,v=.slice a n c:=by
 obtain⟨a,c,e,_⟩:=h
 exact⟨a,c,by rw [← hn]; exact e⟩

end Go.Proofs.Ytfocooajnignbaa
end

section
namespace Go.Proofs.Ytfocooajnignbaa
open Ieee

theorem cut_zero (neg:Bool) (n:Nat):Toward.even.cut neg n 0=n:=by
 simp [Toward.cut,Nat.mod_one]

theorem cut_exact (neg:Bool) (n drop:Nat) (h:drop≤n.log2+2) (hd:2 ^ drop ∣ n):Toward.even.cut neg n drop=n / 2 ^ drop:=by
 have h0:0 < 2 ^ drop:=Nat.two_pow_pos _
 unfold Toward.cut
 rw [Nat.min_eq_left h,Nat.one_shiftLeft]
 simp only [Nat.mod_eq_zero_of_dvd hd,Nat.mul_zero]
 have h1:¬ 2 ^ drop < 0:=by omega
 have h2:(2 ^ drop == 0)=false:=by simp
 simp [h2]

theorem cut_pos (neg:Bool) (n drop:Nat) (h:2 ^ drop≤n):1≤Toward.even.cut neg n drop:=by
 have h0:0 < 2 ^ drop:=Nat.two_pow_pos _
 have hl:drop≤n.log2+2:=by
  have h1:n ≠ 0:=by omega
  have h2:=(Nat.le_log2 h1).2 h
  omega
 unfold Toward.cut
 rw [Nat.min_eq_left hl,Nat.one_shiftLeft]
 have h3:1≤n / 2 ^ drop:=(Nat.le_div_iff_mul_le h0).2 (by omega)
 simp only
 exact Nat.le_trans h3 (Nat.le_add_right _ _)

theorem read_word (neg:Bool) (r:Nat) (h:r≤9218868437227405312):double.read (double.word neg r) =
  if r < 4503599627370496 then .number neg r (-1074) else if r < 9218868437227405312 then .number neg (4503599627370496+r % 4503599627370496) (-1074+(r / 4503599627370496 - 1:Nat)) else .infinity neg:=by
 have e1:double.signWeight=9223372036854775808:=by rfl
 have e2:double.binade=4503599627370496:=by rfl
 have e3:double.infRung=9218868437227405312:=by rfl
 have e4:double.leastPlace=-1074:=by rfl
 unfold Format.read Format.word
 rw [e1,e2,e3,e4]
 have q1:((if neg=true then 9223372036854775808+r else r) / 9223372036854775808 % 2 == 1)=neg:=by
  cases neg
  ·have:r / 9223372036854775808=0:=by omega
   simp [this]
  ·have:(9223372036854775808+r) / 9223372036854775808=1:=by omega
   simp [this]
 have q2:(if neg=true then 9223372036854775808+r else r) % 9223372036854775808=r:=by
  cases neg <;> simp <;> omega
 simp only [q1,q2]
 by_cases h1:r < 4503599627370496
 ·rw [if_pos h1,if_pos h1]
 ·rw [if_neg h1,if_neg h1]
  by_cases h2:r < 9218868437227405312
  ·rw [if_pos h2,if_pos h2]
  ·rw [if_neg h2,if_neg h2,if_pos (by omega)]

def sgn (neg:Bool) (n:Nat):Int:=if neg then -(n:Int) else (n:Int)

theorem signed_sgn (neg:Bool) (m up:Nat):signed neg m up=sgn neg (m * 2 ^ up):=by
 unfold signed sgn
 rw [Nat.shiftLeft_eq]

def Has (b:Nat) (v:Int):Prop:=∃ (s:Bool) (m P:Nat),double.read b=.number s m ((P:Int) - 1074)∧m < 9007199254740992∧P≤2046∧v=sgn s (m * 2 ^ P)

theorem nearest_rung (neg:Bool) (m P:Nat) (hm:m ≠ 0) :
  ∃ kept,double.nearest neg m ((P:Int) - 1074)=double.word neg (min ((P+m.log2 - 52) * 4503599627370496+kept) 9218868437227405312)∧1≤kept∧(2 ^ (P+m.log2 - 52) ∣ m * 2 ^ P→kept * 2 ^ (P+m.log2 - 52)=m * 2 ^ P):=by
 have e2:double.binade=4503599627370496:=by rfl
 have e3:double.infRung=9218868437227405312:=by rfl
 have e4:double.leastPlace=-1074:=by rfl
 have e5:(double.fractionBits:Int)=52:=by rfl
 have hE:max ((P:Int) - 1074+(m.log2:Int) - 52) (-1074)=((P+m.log2 - 52:Nat):Int) - 1074:=by omega
 obtain⟨d,hd⟩ : ∃ d,d=m.log2:=⟨_,rfl⟩
 obtain⟨E,hEe⟩ : ∃ E,E=P+d - 52:=⟨_,rfl⟩
 have h2d:2 ^ d≤m:=by rw [hd]; exact Nat.log2_self_le hm
 unfold Format.nearest
 rw [if_neg hm]
 simp only
 rw [e4,e5,e2,e3,hE,← hd,← hEe]
 have p1:((P:Int) - 1074 - ((E:Int) - 1074)).toNat=P - E:=by omega
 have p2:((E:Int) - 1074 - ((P:Int) - 1074)).toNat=E - P:=by omega
 have p3:((E:Int) - 1074 - (-1074)).toNat=E:=by omega
 rw [p1,p2,p3]
 refine ⟨_,rfl,?_,?_⟩
 ·by_cases h:E≤P
  ·rw [show E - P=0 by omega,cut_zero,Nat.shiftLeft_eq]
   exact Nat.mul_pos (by omega) (Nat.two_pow_pos _)
  ·refine cut_pos _ _ _ ?_
   rw [show P - E=0 by omega,Nat.shiftLeft_zero]
   exact Nat.le_trans (Nat.pow_le_pow_right (by decide) (by omega)) h2d
 ·intro hv
  by_cases h:E≤P
  ·rw [show E - P=0 by omega,cut_zero,Nat.shiftLeft_eq,Nat.mul_assoc,← Nat.pow_add,show P - E+E=P by omega]
  ·rw [show P - E=0 by omega,Nat.shiftLeft_zero]
   have hs:2 ^ E=2 ^ (E - P) * 2 ^ P:=by rw [← Nat.pow_add,show E - P+P=E by omega]
   have hdv:2 ^ (E - P) ∣ m:=by
    rw [hs] at hv
    exact Nat.dvd_of_mul_dvd_mul_right (Nat.two_pow_pos P) hv
   rw [cut_exact _ _ _ (by rw [← hd]; omega) hdv,hs,← Nat.mul_assoc,Nat.div_mul_cancel hdv]

theorem nearest_has (neg:Bool) (m P n q:Nat) (hn:n < 9007199254740992) (hq:q≤1800) (h:m * 2 ^ P=n * 2 ^ q):Has (double.nearest neg m ((P:Int) - 1074)) (sgn neg (m * 2 ^ P)):=by
 by_cases hm:m=0
 ·subst hm
  refine ⟨neg,0,0,?_,by decide,by decide,by simp⟩
  have:double.nearest neg 0 ((P:Int) - 1074)=double.word neg 0:=by unfold Format.nearest; rw [if_pos rfl]
  rw [this,read_word _ _ (by decide)]
  rfl
 ·obtain⟨kept,e,h1,h2⟩:=nearest_rung neg m P hm
  obtain⟨d,hd⟩ : ∃ d,d=m.log2:=⟨_,rfl⟩
  obtain⟨E,hEe⟩ : ∃ E,E=P+d - 52:=⟨_,rfl⟩
  rw [← hd,← hEe] at e h2
  have g1:2 ^ d≤m:=by rw [hd]; exact Nat.log2_self_le hm
  have g2:m < 2 ^ (d+1):=by rw [hd]; exact Nat.lt_log2_self
  have g3:2 ^ (d+P)≤m * 2 ^ P:=by rw [Nat.pow_add]; exact Nat.mul_le_mul_right _ g1
  have g4:m * 2 ^ P < 2 ^ (d+1+P):=by rw [Nat.pow_add]; exact Nat.mul_lt_mul_of_pos_right g2 (Nat.two_pow_pos _)
  have g5:m * 2 ^ P < 2 ^ (53+q):=by rw [h,Nat.pow_add]; exact Nat.mul_lt_mul_of_pos_right (by simpa using hn) (Nat.two_pow_pos _)
  have g6:d+P < 53+q:=(Nat.pow_lt_pow_iff_right (by decide)).1 (Nat.lt_of_le_of_lt g3 g5)
  have g7:2 ^ E ∣ m * 2 ^ P:=by
   rw [h,show q=(q - E)+E by omega,Nat.pow_add,← Nat.mul_assoc]
   exact Nat.dvd_mul_left _ _
  have hk:=h2 g7
  have k1:kept < 9007199254740992:=by
   have:kept * 2 ^ E < 2 ^ 53 * 2 ^ E:=by
    rw [hk,← Nat.pow_add]
    exact Nat.lt_of_lt_of_le g4 (Nat.pow_le_pow_right (by decide) (by omega))
   simpa using Nat.lt_of_mul_lt_mul_right this
  have k2:0 < E→4503599627370496≤kept:=by
   intro hE
   have:2 ^ 52 * 2 ^ E≤kept * 2 ^ E:=by
    rw [hk,← Nat.pow_add]
    exact Nat.le_trans (Nat.pow_le_pow_right (by decide) (by omega)) g3
   simpa using Nat.le_of_mul_le_mul_right this (Nat.two_pow_pos E)
  have k3:E * 4503599627370496+kept < 9218868437227405312:=by omega
  rw [Nat.min_eq_left (Nat.le_of_lt k3)] at e
  refine ⟨neg,kept,E,?_,k1,by omega,by rw [hk]⟩
  rw [e,read_word _ _ (Nat.le_of_lt k3)]
  by_cases c:E * 4503599627370496+kept < 4503599627370496
  ·have hE0:E=0:=by omega
   rw [if_pos c]
   subst hE0
   simp
  ·rw [if_neg c,if_pos k3]
   have c1:(E * 4503599627370496+kept) / 4503599627370496 - 1=E:=by
    by_cases hE:0 < E
    ·have:=k2 hE; omega
    ·omega
   have c2:4503599627370496+(E * 4503599627370496+kept) % 4503599627370496=kept:=by
    by_cases hE:0 < E
    ·have:=k2 hE; omega
    ·omega
   rw [c1,c2]
   congr 1

def Stands (b:Nat) (v:Int):Prop:=double.order b 0=some (compare v 0)∧double.order b b=some .eq

theorem sgn_natAbs (s:Bool) (t:Int):sgn (if t=0 then s else decide (t < 0)) t.natAbs=t:=by
 unfold sgn
 by_cases h:t=0
 ·subst h
  simp
 ·rw [if_neg h]
  by_cases h2:t < 0
  ·simp only [h2,decide_true,if_true]; omega
  ·simp only [h2,decide_false,Bool.false_eq_true,if_false]; omega

theorem sgn_mul (s:Bool) (n k:Nat):sgn s (n * k)=sgn s n * k:=by
 unfold sgn
 cases s
 ·simp
 ·simp [Int.neg_mul]

theorem sum_raw {x y:Nat} {a b:Int} (hx:Has x a) (hy:Has y b):∃ s m P,double.add x y=some (double.nearest s m ((P:Nat) - 1074:Int))∧sgn s (m * 2 ^ P)=a+b:=by
 obtain⟨s,m,P,e1,-,-,rfl⟩:=hx
 obtain⟨t,n,R,e2,-,-,rfl⟩:=hy
 unfold Format.add
 rw [e1,e2]
 simp only [Datum.sum,Option.map_some,Format.write]
 have e3:min ((P:Int) - 1074) ((R:Int) - 1074)=((min P R:Nat):Int) - 1074:=by omega
 rw [e3,signed_sgn,signed_sgn]
 have e4:((P:Int) - 1074 - (((min P R:Nat):Int) - 1074)).toNat=P - min P R:=by omega
 have e5:((R:Int) - 1074 - (((min P R:Nat):Int) - 1074)).toNat=R - min P R:=by omega
 rw [e4,e5]
 refine ⟨_,_,_,rfl,?_⟩
 rw [sgn_mul,sgn_natAbs,Int.add_mul,← sgn_mul,← sgn_mul,Nat.mul_assoc,Nat.mul_assoc,← Nat.pow_add,← Nat.pow_add,show P - min P R+min P R=P by omega,show R - min P R+min P R=R by omega]

theorem has_opposite {y:Nat} {b:Int} (h:Has y b):∃ (s:Bool) (m P:Nat),(double.read y).opposite=.number s m ((P:Int) - 1074)∧m < 9007199254740992∧P≤2046∧-b=sgn s (m * 2 ^ P):=by
 obtain⟨s,m,P,e,h1,h2,rfl⟩:=h
 refine ⟨!s,m,P,by rw [e]; rfl,h1,h2,?_⟩
 unfold sgn
 cases s <;> simp

theorem sub_raw {x y:Nat} {a b:Int} (hx:Has x a) (hy:Has y b):∃ s m P,double.sub x y=some (double.nearest s m ((P:Nat) - 1074:Int))∧sgn s (m * 2 ^ P)=a - b:=by
 obtain⟨s,m,P,e1,-,-,rfl⟩:=hx
 obtain⟨t,n,R,e2,-,-,hb⟩:=has_opposite hy
 unfold Format.sub
 rw [e1,e2]
 simp only [Datum.sum,Option.map_some,Format.write]
 have e3:min ((P:Int) - 1074) ((R:Int) - 1074)=((min P R:Nat):Int) - 1074:=by omega
 rw [e3,signed_sgn,signed_sgn]
 have e4:((P:Int) - 1074 - (((min P R:Nat):Int) - 1074)).toNat=P - min P R:=by omega
 have e5:((R:Int) - 1074 - (((min P R:Nat):Int) - 1074)).toNat=R - min P R:=by omega
 rw [e4,e5]
 refine ⟨_,_,_,rfl,?_⟩
 rw [sgn_mul,sgn_natAbs,Int.add_mul,← sgn_mul,← sgn_mul,Nat.mul_assoc,Nat.mul_assoc,← Nat.pow_add,← Nat.pow_add,show P - min P R+min P R=P by omega,show R - min P R+min P R=R by omega,← hb]
 rfl

theorem natAbs_two (k:Nat):((2:Int) ^ k).natAbs=2 ^ k:=by
 rw [Int.natAbs_pow]
 rfl

theorem cast_two (k:Nat):((2 ^ k:Nat):Int)=(2:Int) ^ k:=Int.natCast_pow 2 k

theorem sgn_nil (s:Bool):sgn s 0=0:=by cases s <;> rfl

theorem natAbs_sgn (s:Bool) (n:Nat):(sgn s n).natAbs=n:=by
 unfold sgn
 cases s <;> simp

def Whole (i:Int):Prop:=∃ n k:Nat,n < 9007199254740992∧k≤700∧i.natAbs=n * 2 ^ k

def IsF (b:Nat) (i:Int):Prop:=Has b (i * 2 ^ 1074)

theorem has_round {s:Bool} {m P:Nat} {i:Int} (h:sgn s (m * 2 ^ P)=i * 2 ^ 1074) (hw:Whole i):IsF (double.nearest s m ((P:Nat) - 1074:Int)) i:=by
 obtain⟨n,k,h1,h2,h3⟩:=hw
 have:=nearest_has s m P n (k+1074) h1 (by omega) (by
  have e:=congrArg Int.natAbs h
  rw [natAbs_sgn,Int.natAbs_mul,h3] at e
  rw [e,natAbs_two,Nat.pow_add,← Nat.mul_assoc])
 rw [h] at this
 exact this

theorem add_whole {x y:Nat} {a b:Int} (hx:IsF x a) (hy:IsF y b) (hw:Whole (a+b)):∃ r,double.add x y=some r∧IsF r (a+b):=by
 obtain⟨s,m,P,e,h⟩:=sum_raw hx hy
 exact⟨_,e,has_round (by rw [h,Int.add_mul]) hw⟩

theorem sub_whole {x y:Nat} {a b:Int} (hx:IsF x a) (hy:IsF y b) (hw:Whole (a - b)):∃ r,double.sub x y=some r∧IsF r (a - b):=by
 obtain⟨s,m,P,e,h⟩:=sub_raw hx hy
 exact⟨_,e,has_round (by rw [h,Int.sub_mul]) hw⟩

theorem int_whole {i:Int} (h1:-9007199254740992 < i) (h2:i < 9007199254740992):Whole i:=⟨i.natAbs,0,by omega,by decide,by simp⟩

theorem ofInt_is {i:Int} (h1:-9007199254740992 < i) (h2:i < 9007199254740992):IsF (floatOfInt .f64 i) i:=by
 show IsF (double.nearest (decide (i < 0)) i.natAbs 0) i
 have:=has_round (s:=decide (i < 0)) (m:=i.natAbs) (P:=1074) (i:=i) (by
  refine (sgn_mul _ _ _).trans ?_
  refine (congrArg (sgn (decide (i < 0)) i.natAbs * ·) (cast_two 1074)).trans ?_
  refine congrArg (· * (2:Int) ^ 1074) ?_
  unfold sgn
  by_cases h:i < 0
  ·simp only [h,decide_true,if_true]; omega
  ·simp only [h,decide_false,Bool.false_eq_true,if_false]; omega) (int_whole h1 h2)
 exact this

end Go.Proofs.Ytfocooajnignbaa
end

section
namespace Go.Proofs.Ytfocooajnignbaa
open Ieee

theorem isF_nil {s:Bool} {m P:Nat} {a:Int} (h:a * 2 ^ 1074=sgn s (m * 2 ^ P)) (hm:m=0):a=0:=by
 subst hm
 have hp:(0:Int) < 2 ^ 1074:=Int.pow_pos (by decide)
 unfold sgn at h
 simp only [Nat.zero_mul,Int.ofNat_zero,Int.neg_zero,ite_self] at h
 rcases Int.mul_eq_zero.1 h with h | h
 ·exact h
 ·omega

theorem isF_high {s:Bool} {m P:Nat} {a:Int} (h:a * 2 ^ 1074=sgn s (m * 2 ^ P)) (h3:m < 9007199254740992) (ha:a.natAbs ≠ 0):1021 < P:=by
 have hab:=congrArg Int.natAbs h
 rw [natAbs_sgn,Int.natAbs_mul,natAbs_two] at hab
 have q1:2 ^ 1074≤m * 2 ^ P:=by
  rw [← hab]
  have hp:∀ V:Nat,V≤a.natAbs * V:=fun V => Nat.le_mul_of_pos_left V (Nat.pos_of_ne_zero ha)
  exact hp _
 have q2:m * 2 ^ P < 2 ^ 53 * 2 ^ P:=Nat.mul_lt_mul_of_pos_right (by simpa using h3) (Nat.two_pow_pos _)
 rw [← Nat.pow_add] at q2
 have:=(Nat.pow_lt_pow_iff_right (by decide)).1 (Nat.lt_of_le_of_lt q1 q2)
 omega

theorem sgn_xor (s t:Bool) (m n:Nat):sgn (s ^^ t) (m * n)=sgn s m * sgn t n:=by
 unfold sgn
 cases s <;> cases t <;> simp [Int.neg_mul,Int.mul_neg]

theorem mul_scale {s t:Bool} {m n P R Q:Nat} {a b E:Int} (hE:E=((2 ^ Q:Nat):Int)) (h5:a * E=sgn s (m * 2 ^ P)) (g5:b * E=sgn t (n * 2 ^ R)) (hq:Q≤P+R):sgn (s ^^ t) (m * n * 2 ^ (P+R - Q)) * E=a * b * E * E:=by
 rw [hE,← sgn_mul,Nat.mul_assoc,← Nat.pow_add,show P+R - Q+Q=P+R by omega,Nat.pow_add,
  show m * n * (2 ^ P * 2 ^ R)=(m * 2 ^ P) * (n * 2 ^ R) by ac_rfl,sgn_xor,← h5,← g5,← hE]
 ac_rfl

theorem mul_whole {x y:Nat} {a b:Int} (hx:IsF x a) (hy:IsF y b) (hw:Whole (a * b)):∃ r,double.mul x y=some r∧IsF r (a * b):=by
 obtain⟨s,m,P,e1,h3,-,h5⟩:=hx
 obtain⟨t,n,R,e2,g3,-,g5⟩:=hy
 unfold Format.mul
 rw [e1,e2]
 simp only [Datum.product,Option.map_some,Format.write]
 refine ⟨_,rfl,?_⟩
 by_cases hz:m * n=0
 ·have hab:a * b=0:=by
   rcases Nat.mul_eq_zero.1 hz with h | h
   ·rw [isF_nil h5 h,Int.zero_mul]
   ·rw [isF_nil g5 h,Int.mul_zero]
  rw [hz,hab]
  have:=nearest_has (s ^^ t) 0 0 0 0 (by decide) (by decide) rfl
  have e:double.nearest (s ^^ t) 0 ((P:Int) - 1074+((R:Int) - 1074))=double.nearest (s ^^ t) 0 (((0:Nat):Int) - 1074):=by
   unfold Format.nearest
   rw [if_pos rfl,if_pos rfl]
  rw [e]
  unfold IsF
  have e0:sgn (s ^^ t) (0 * 2 ^ 0)=0 * 2 ^ 1074:=by rw [Int.zero_mul,Nat.zero_mul,sgn_nil]
  rwa [e0] at this
 ·have hm:m ≠ 0:=fun h => hz (by rw [h,Nat.zero_mul])
  have hn:n ≠ 0:=fun h => hz (by rw [h,Nat.mul_zero])
  have ha:a.natAbs ≠ 0:=by
   intro h0
   have:a=0:=by omega
   subst this
   have:=congrArg Int.natAbs h5
   rw [natAbs_sgn,Int.zero_mul] at this
   have h9:=Nat.mul_pos (Nat.pos_of_ne_zero hm) (Nat.two_pow_pos P)
   have h8:m * 2 ^ P=0:=this.symm
   omega
  have hb:b.natAbs ≠ 0:=by
   intro h0
   have:b=0:=by omega
   subst this
   have:=congrArg Int.natAbs g5
   rw [natAbs_sgn,Int.zero_mul] at this
   have h9:=Nat.mul_pos (Nat.pos_of_ne_zero hn) (Nat.two_pow_pos R)
   have h8:n * 2 ^ R=0:=this.symm
   omega
  have hP:=isF_high h5 h3 ha
  have hR:=isF_high g5 g3 hb
  rw [show (P:Int) - 1074+((R:Int) - 1074)=((P+R - 1074:Nat):Int) - 1074 by omega]
  refine has_round ?_ hw
  have hc:=mul_scale (Q:=1074) (cast_two 1074).symm h5 g5 (by omega)
  exact Int.eq_of_mul_eq_mul_right (Int.pow_ne_zero (by decide)) hc

theorem order_whole {x y:Nat} {a b:Int} (hx:IsF x a) (hy:IsF y b):double.order x y=some (compare a b):=by
 obtain⟨s,m,P,e1,-,-,h5⟩:=hx
 obtain⟨t,n,R,e2,-,-,g5⟩:=hy
 unfold Format.order
 rw [e1,e2]
 unfold Datum.order
 simp only
 have e3:min ((P:Int) - 1074) ((R:Int) - 1074)=((min P R:Nat):Int) - 1074:=by omega
 rw [e3,signed_sgn,signed_sgn]
 have e4:((P:Int) - 1074 - (((min P R:Nat):Int) - 1074)).toNat=P - min P R:=by omega
 have e5:((R:Int) - 1074 - (((min P R:Nat):Int) - 1074)).toNat=R - min P R:=by omega
 rw [e4,e5]
 congr 1
 have hp:(0:Int) < 2 ^ 1074:=Int.pow_pos (by decide)
 have hq:(0:Int) < ((2 ^ min P R:Nat):Int):=by have:=Nat.two_pow_pos (min P R); omega
 have k1:sgn s (m * 2 ^ (P - min P R)) * ((2 ^ min P R:Nat):Int)=a * 2 ^ 1074:=by
  rw [h5,← sgn_mul,Nat.mul_assoc,← Nat.pow_add,show P - min P R+min P R=P by omega]
 have k2:sgn t (n * 2 ^ (R - min P R)) * ((2 ^ min P R:Nat):Int)=b * 2 ^ 1074:=by
  rw [g5,← sgn_mul,Nat.mul_assoc,← Nat.pow_add,show R - min P R+min P R=R by omega]
 generalize sgn s (m * 2 ^ (P - min P R))=U at *
 generalize sgn t (n * 2 ^ (R - min P R))=V at *
 generalize ((2 ^ min P R:Nat):Int)=D at *
 generalize (2:Int) ^ 1074=E at *
 rcases Int.lt_trichotomy a b with h | h | h
 ·rw [Int.compare_eq_lt.2 h,Int.compare_eq_lt]
  refine Int.lt_of_mul_lt_mul_right (a:=D) ?_ (Int.le_of_lt hq)
  rw [k1,k2]
  exact Int.mul_lt_mul_of_pos_right h hp
 ·rw [Int.compare_eq_eq.2 h,Int.compare_eq_eq]
  refine Int.eq_of_mul_eq_mul_right (a:=D) (by omega) ?_
  rw [k1,k2,h]
 ·rw [Int.compare_eq_gt.2 h,Int.compare_eq_gt]
  refine Int.lt_of_mul_lt_mul_right (a:=D) ?_ (Int.le_of_lt hq)
  rw [k1,k2]
  exact Int.mul_lt_mul_of_pos_right h hp

theorem cancel_pow {a b Q:Nat} (h:a * 2 ^ Q=b * 2 ^ Q):a=b:=Nat.eq_of_mul_eq_mul_right (Nat.two_pow_pos Q) h

theorem split_pow (m P Q:Nat) (h:Q≤P):m * 2 ^ (P - Q) * 2 ^ Q=m * 2 ^ P:=by rw [Nat.mul_assoc,← Nat.pow_add,show P - Q+Q=P by omega]

theorem toInt_whole {x:Nat} {a:Int} (hx:IsF x a) (h1:-9007199254740992 < a) (h2:a < 9007199254740992):floatToIntVal .f64 x .i64=some a:=by
 obtain⟨s,m,P,e1,h3,-,h5⟩:=hx
 unfold floatToIntVal
 have hd:FloatKind.f64.decode x=.number s m ((P:Int) - 1074):=e1
 have ht:(FloatKind.f64.decode x).toInt .zero=some a:=by
  rw [hd]
  unfold Datum.toInt Datum.integral
  simp only
  rw [signed_sgn,Nat.pow_zero,Nat.mul_one]
  congr 1
  have hsa:∀ k:Nat,a.natAbs=k→(a.natAbs ≠ 0→sgn s k=a):=by
   intro k hk hne
   subst hk
   have hp:(0:Int) < 2 ^ 1074:=Int.pow_pos (by decide)
   unfold sgn at h5 ⊢
   generalize (2:Int) ^ 1074=E at *
   cases s
   ·simp only [Bool.false_eq_true,if_false] at h5 ⊢
    have:0≤a * E:=by rw [h5]; exact Int.natCast_nonneg _
    have:=Int.nonneg_of_mul_nonneg_left this hp
    omega
   ·simp only [if_true] at h5 ⊢
    have:0≤(-a) * E:=by rw [Int.neg_mul,h5,Int.neg_neg]; exact Int.natCast_nonneg _
    have:=Int.nonneg_of_mul_nonneg_left this hp
    omega
  by_cases ha:a.natAbs=0
  ·have ha0:a=0:=by omega
   subst ha0
   have hm:m=0:=by
    have:=congrArg Int.natAbs h5
    rw [natAbs_sgn,Int.zero_mul] at this
    have h8:m * 2 ^ P=0:=this.symm
    have:=Nat.two_pow_pos P
    rcases Nat.mul_eq_zero.1 h8 with h | h
    ·exact h
    ·omega
   subst hm
   have:Toward.zero.cut s (0 <<< ((P:Int) - 1074).toNat) (-((P:Int) - 1074)).toNat=0:=by
    unfold Toward.cut
    simp
   rw [this,sgn_nil]
  ·have hab:=congrArg Int.natAbs h5
   rw [natAbs_sgn,Int.natAbs_mul,natAbs_two] at hab
   refine hsa _ ?_ ha
   by_cases hP:1074≤P
   ·rw [show (-((P:Int) - 1074)).toNat=0 by omega,show ((P:Int) - 1074).toNat=P - 1074 by omega,Nat.shiftLeft_eq]
    have:Toward.zero.cut s (m * 2 ^ (P - 1074)) 0=m * 2 ^ (P - 1074):=by
     unfold Toward.cut
     simp
    rw [this]
    refine cancel_pow (Q:=1074) ?_
    exact hab.trans (split_pow m P 1074 hP).symm
   ·obtain⟨d,hd'⟩ : ∃ d,d=1074 - P:=⟨_,rfl⟩
    rw [show (-((P:Int) - 1074)).toNat=d by omega,show ((P:Int) - 1074).toNat=0 by omega,Nat.shiftLeft_zero]
    have hm:m=a.natAbs * 2 ^ d:=by
     refine Nat.eq_of_mul_eq_mul_right (Nat.two_pow_pos P) ?_
     rw [← hab,Nat.mul_assoc,← Nat.pow_add,show d+P=1074 by omega]
    have hlog:d≤m.log2+2:=by
     have hm0:m ≠ 0:=by rw [hm]; exact Nat.ne_of_gt (Nat.mul_pos (Nat.pos_of_ne_zero ha) (Nat.two_pow_pos _))
     have:2 ^ d≤m:=by rw [hm]; exact Nat.le_mul_of_pos_left _ (Nat.pos_of_ne_zero ha)
     have:=(Nat.le_log2 hm0).2 this
     omega
    unfold Toward.cut
    rw [Nat.min_eq_left hlog,Nat.one_shiftLeft]
    simp only [Bool.toNat_false,Nat.add_zero]
    rw [hm,Nat.mul_div_cancel _ (Nat.two_pow_pos _)]
 rw [ht]
 have e1':IntKind.i64.min=-9223372036854775808:=by decide
 have e2':IntKind.i64.max=9223372036854775807:=by decide
 simp only
 rw [e1',e2',if_pos (by omega)]

theorem run_min_whole {P:Program} {x y:Nat} {a b:Int} (hx:IsF x a) (hy:IsF y b):∃ r,IsF r (min a b)∧∀ (w:World) (ts:Array TypeId) (t:TypeId),(Builtin.min_ ts t #[.float .f64 x,.float .f64 y]).run P w=.ok (.float .f64 r) w:=by
 have ho:FloatKind.f64.format.order x y=some (compare a b):=order_whole hx hy
 rcases Int.lt_trichotomy a b with h | h | h
 ·refine ⟨x,by rwa [Int.min_eq_left (Int.le_of_lt h)],fun w ts t => ?_⟩
  rw [Int.compare_eq_lt.2 h] at ho
  simp [Builtin.min_,Builtin.min2,ho]
 ·subst h
  rw [Int.compare_eq_eq.2 rfl] at ho
  refine ⟨if (FloatKind.f64.decode x).neg=true then x else y,?_,fun w ts t => ?_⟩
  ·rw [Int.min_self]; split <;> assumption
  ·simp [Builtin.min_,Builtin.min2,ho]
 ·refine ⟨y,by rwa [Int.min_eq_right (Int.le_of_lt h)],fun w ts t => ?_⟩
  rw [Int.compare_eq_gt.2 h] at ho
  simp [Builtin.min_,Builtin.min2,ho]

end Go.Proofs.Ytfocooajnignbaa
end

section
namespace Go.Proofs.Ytfocooajnignbaa
open Go.RowKit

theorem cells4P {w:World} {B:Nat} {a b c d:Value} (h:CellsAt w B 0 [a,b,c,d]):w.cell? ⟨B,0,none⟩=some a∧w.cell? ⟨B,1,none⟩=some b∧w.cell? ⟨B,2,none⟩=some c∧w.cell? ⟨B,3,none⟩=some d :=
 ⟨h 0 a rfl,h 1 b rfl,h 2 c rfl,h 3 d rfl⟩

theorem cells2P {w:World} {B:Nat} {a b:Value} (h:CellsAt w B 0 [a,b]):w.cell? ⟨B,0,none⟩=some a∧w.cell? ⟨B,1,none⟩=some b :=
 ⟨h 0 a rfl,h 1 b rfl⟩

theorem free_later {w w':World} {B:Nat} (hB:B < w.heap.size) (h:∀ i,w.frozen? ⟨B,i,none⟩=false) (hb:Below w.heap.size w w'):∀ i,w'.frozen? ⟨B,i,none⟩=false:=fun i =>
 (hb.frozen (p:=⟨B,i,none⟩) hB).trans (h i)

theorem pwithin_any (n f t:Int) (w:World) :
  Calls Try.prog 42 #[.int .i64 n,.int .i64 f,.int .i64 t] w fun e w' => e=.returned (.bool (decide (f≤n) && decide (n≤t)))∧w=w':=by
 cases h1:decide (f≤n)
 ·go_enter Try.func42,Try.ntmps42
  go_wp2_with fail
  go_ret
  exact⟨rfl,rfl⟩
 ·go_enter Try.func42,Try.ntmps42
  go_wp2_with fail
  go_ret
  exact⟨rfl,rfl⟩

theorem ptick_any (n:Int) (w:World) :
  Calls Try.prog 28 #[.int .i64 n] w fun e w' => e=.returned (.bool (pcTime n))∧w=w':=by
 have H:=hZq (pwithin_any n 0 1099511627776)
 obtain⟨r,hr⟩ : ∃ r,pcTime n=r:=⟨_,rfl⟩
 rw [hr]
 rw [show (decide (0≤n) && decide (n≤1099511627776))=pcTime n from rfl,hr] at H
 clear hr
 go_enter Try.func28,Try.ntmps28
 go_wp2_with fail
 refine (H.out _).mono ?_
 rintro e w1 ⟨rfl,rfl⟩
 go_wp2_with fail
 go_ret
 exact⟨rfl,rfl⟩

theorem pcMay_split (a b d e:Int):pcMay ⟨a,b,d,e⟩=((decide (1≤a) && decide (a≤16)) && ((decide (1≤b) && decide (b≤64)) && ((decide (1≤d) && decide (d≤16)) && (decide (1≤e) && decide (e≤1000))))):=by
 unfold pcMay
 simp only [Bool.and_assoc]

theorem pmay_any (a b d e:Int) {r:Bool} (h:Hid (pcMay ⟨a,b,d,e⟩=r)) (w:World) :
  Calls Try.prog 23 #[.agg #[.int .i64 a,.int .i64 b,.int .i64 d,.int .i64 e]] w fun e w' => e=.returned (.bool r)∧Below w.heap.size w w':=by
 have B0:=hZq (bl_newZ w (.cells #[.int .i64 a,.int .i64 b,.int .i64 d,.int .i64 e] 23))
 have HR:=h.out
 rw [pcMay_split] at HR
 have H1:=hZq (pwithin_any a 1 16)
 have H2:=hZq (pwithin_any b 1 64)
 have H3:=hZq (pwithin_any d 1 16)
 have H4:=hZq (pwithin_any e 1 1000)
 obtain⟨q1,h1⟩ : ∃ q,(decide (1≤a) && decide (a≤16))=q:=⟨_,rfl⟩
 obtain⟨q2,h2⟩ : ∃ q,(decide (1≤b) && decide (b≤64))=q:=⟨_,rfl⟩
 obtain⟨q3,h3⟩ : ∃ q,(decide (1≤d) && decide (d≤16))=q:=⟨_,rfl⟩
 obtain⟨q4,h4⟩ : ∃ q,(decide (1≤e) && decide (e≤1000))=q:=⟨_,rfl⟩
 rw [h1] at H1 HR
 rw [h2] at H2 HR
 rw [h3] at H3 HR
 rw [h4] at H4 HR
 subst HR
 clear h h1 h2 h3 h4
 cases q1
 ·go_enter Try.func23,Try.ntmps23
  go_wp2_with fail
  refine (H1.out _).mono ?_
  rintro e w1 ⟨rfl,rfl⟩
  go_wp2_with fail
  go_ret
  exact⟨rfl,B0.out⟩
 ·cases q2
  ·go_enter Try.func23,Try.ntmps23
   go_wp2_with fail
   refine (H1.out _).mono ?_
   rintro e w1 ⟨rfl,rfl⟩
   go_wp2_with fail
   refine (H2.out _).mono ?_
   rintro e w1 ⟨rfl,rfl⟩
   go_wp2_with fail
   go_ret
   exact⟨rfl,B0.out⟩
  ·cases q3
   ·go_enter Try.func23,Try.ntmps23
    go_wp2_with fail
    refine (H1.out _).mono ?_
    rintro e w1 ⟨rfl,rfl⟩
    go_wp2_with fail
    refine (H2.out _).mono ?_
    rintro e w1 ⟨rfl,rfl⟩
    go_wp2_with fail
    refine (H3.out _).mono ?_
    rintro e w1 ⟨rfl,rfl⟩
    go_wp2_with fail
    go_ret
    exact⟨rfl,B0.out⟩
   ·go_enter Try.func23,Try.ntmps23
    go_wp2_with fail
    refine (H1.out _).mono ?_
    rintro e w1 ⟨rfl,rfl⟩
    go_wp2_with fail
    refine (H2.out _).mono ?_
    rintro e w1 ⟨rfl,rfl⟩
    go_wp2_with fail
    refine (H3.out _).mono ?_
    rintro e w1 ⟨rfl,rfl⟩
    go_wp2_with fail
    refine (H4.out _).mono ?_
    rintro e w1 ⟨rfl,rfl⟩
    go_wp2_with fail
    go_ret
    exact⟨rfl,B0.out⟩

theorem pcOK_split (a b d e tok at' now:Int):(pcOne ⟨a,b,d,e⟩ ⟨tok,at'⟩ && pcTime now)=(pcMay ⟨a,b,d,e⟩ && ((decide (0≤tok) && decide (tok≤b)) && (pcTime at' && pcTime now))):=by
 unfold pcOne
 simp only [Bool.and_assoc]

def boxes (w:World) (a b d e tok at':Int):World:=(w.alloc (.cells #[.int .i64 a,.int .i64 b,.int .i64 d,.int .i64 e] 23)).alloc (.cells #[.int .i64 tok,.int .i64 at'] 31)

theorem boxes_below (w:World) (a b d e tok at':Int):Below w.heap.size w (boxes w a b d e tok at'):=((Below.refl _ _).alloc (Nat.le_refl _) _).alloc (by simp) _

theorem boxes_cfg (w:World) (a b d e tok at':Int):CellsAt (boxes w a b d e tok at') w.heap.size 0 [.int .i64 a,.int .i64 b,.int .i64 d,.int .i64 e] :=
 (cellsAt_made rfl 23 rfl).later (bl_newZ _ _)

theorem boxes_bkt (w:World) (a b d e tok at':Int):CellsAt (boxes w a b d e tok at') (w.heap.size+1) 0 [.int .i64 tok,.int .i64 at'] :=
 cellsAt_made rfl 31 (by simp)

theorem pmayBe_any (a b d e tok at' now:Int) {r:Bool} (h:Hid ((pcOne ⟨a,b,d,e⟩ ⟨tok,at'⟩ && pcTime now)=r)) (w:World) :
  Calls Try.prog 35 #[.agg #[.int .i64 a,.int .i64 b,.int .i64 d,.int .i64 e],.agg #[.int .i64 tok,.int .i64 at'],.int .i64 now] w fun e w' => e=.returned (.bool r)∧Below w.heap.size w w':=by
 have B0:=hZq (boxes_below w a b d e tok at')
 have K0:=hZq (boxes_cfg w a b d e tok at')
 have K1:=hZq (boxes_bkt w a b d e tok at')
 have HR:=h.out
 rw [pcOK_split] at HR
 have H2:=hZq (pwithin_any tok 0 b)
 have H3:=hZq (ptick_any at')
 have H4:=hZq (ptick_any now)
 obtain⟨q1,h1⟩ : ∃ q,pcMay ⟨a,b,d,e⟩=q:=⟨_,rfl⟩
 have H1:=hZq (pmay_any a b d e (hZq h1))
 obtain⟨q2,h2⟩ : ∃ q,(decide (0≤tok) && decide (tok≤b))=q:=⟨_,rfl⟩
 obtain⟨q3,h3⟩ : ∃ q,pcTime at'=q:=⟨_,rfl⟩
 obtain⟨q4,h4⟩ : ∃ q,pcTime now=q:=⟨_,rfl⟩
 rw [h1] at HR
 rw [h2] at H2 HR
 rw [h3] at H3 HR
 rw [h4] at H4 HR
 subst HR
 clear h h1 h2 h3 h4
 cases q1
 ·go_enter Try.func35,Try.ntmps35
  go_wp2_with fail
  refine (H1.out _).mono ?_
  rintro e w1 ⟨rfl,b1⟩
  have B1:=hZq (below2Z B0.out b1)
  clear b1
  go_wp2_with fail
  go_ret
  exact⟨rfl,B1.out⟩
 ·cases q2
  ·go_enter Try.func35,Try.ntmps35
   go_wp2_with fail
   refine (H1.out _).mono ?_
   rintro e w1 ⟨rfl,b1⟩
   have B1:=hZq (below2Z B0.out b1)
   obtain⟨c0,c1,c2,c3⟩:=cells4P (K0.out.later b1)
   obtain⟨d0,d1⟩:=cells2P (K1.out.later b1)
   clear b1
   go_wp2_with fail
   refine (H2.out _).mono ?_
   rintro e w2 ⟨rfl,rfl⟩
   go_wp2_with fail
   go_ret
   exact⟨rfl,B1.out⟩
  ·cases q3
   ·go_enter Try.func35,Try.ntmps35
    go_wp2_with fail
    refine (H1.out _).mono ?_
    rintro e w1 ⟨rfl,b1⟩
    have B1:=hZq (below2Z B0.out b1)
    obtain⟨c0,c1,c2,c3⟩:=cells4P (K0.out.later b1)
    obtain⟨d0,d1⟩:=cells2P (K1.out.later b1)
    clear b1
    go_wp2_with fail
    refine (H2.out _).mono ?_
    rintro e w2 ⟨rfl,rfl⟩
    go_wp2_with fail
    refine (H3.out _).mono ?_
    rintro e w2 ⟨rfl,rfl⟩
    go_wp2_with fail
    go_ret
    exact⟨rfl,B1.out⟩
   ·go_enter Try.func35,Try.ntmps35
    go_wp2_with fail
    refine (H1.out _).mono ?_
    rintro e w1 ⟨rfl,b1⟩
    have B1:=hZq (below2Z B0.out b1)
    obtain⟨c0,c1,c2,c3⟩:=cells4P (K0.out.later b1)
    obtain⟨d0,d1⟩:=cells2P (K1.out.later b1)
    clear b1
    go_wp2_with fail
    refine (H2.out _).mono ?_
    rintro e w2 ⟨rfl,rfl⟩
    go_wp2_with fail
    refine (H3.out _).mono ?_
    rintro e w2 ⟨rfl,rfl⟩
    go_wp2_with fail
    refine (H4.out _).mono ?_
    rintro e w2 ⟨rfl,rfl⟩
    go_wp2_with fail
    go_ret
    exact⟨rfl,B1.out⟩

theorem isF_one:IsF 4607182418800017408 1:=by
 have h:=ofInt_is (i:=1) (by decide) (by decide)
 rwa [show floatOfInt .f64 1=4607182418800017408 by rfl] at h

theorem isF_zero:IsF 0 0:=by
 have h:=ofInt_is (i:=0) (by decide) (by decide)
 rwa [show floatOfInt .f64 0=0 by rfl] at h

theorem ward_float {tok at' rate ticks:Int} (h1:0≤tok) (h2:tok≤64) (h3:0≤at') (h4:at'≤1099511627776) (h5:1≤rate) (h6:rate≤16) (h7:0≤ticks) (h8:ticks≤1099511627776) :
  ∃ p q r s,cMulBits (floatOfInt .f64 rate) 4607182418800017408 (floatOfInt .f64 ticks) 0=some (p,q)∧cSumBits .add .f64 (floatOfInt .f64 tok) (floatOfInt .f64 at') p q=some (r,s)∧IsF r (tok+ticks * rate)∧IsF s (at'+ticks):=by
 have hm:0≤rate * ticks∧rate * ticks≤16 * 1099511627776:=⟨Int.mul_nonneg (by omega) h7,Int.mul_le_mul h6 h8 h7 (by omega)⟩
 have F1:=ofInt_is (i:=rate) (by omega) (by omega)
 have F2:=ofInt_is (i:=ticks) (by omega) (by omega)
 have F3:=ofInt_is (i:=tok) (by omega) (by omega)
 have F4:=ofInt_is (i:=at') (by omega) (by omega)
 obtain⟨ac,hac,AC⟩:=mul_whole F1 F2 (int_whole (by omega) (by omega))
 obtain⟨bd,hbd,BD⟩:=mul_whole isF_one isF_zero (int_whole (by omega) (by omega))
 obtain⟨ad,had,AD⟩:=mul_whole F1 isF_zero (int_whole (by omega) (by omega))
 obtain⟨bc,hbc,BC⟩:=mul_whole isF_one F2 (int_whole (by omega) (by omega))
 obtain⟨p,hp,P⟩:=sub_whole AC BD (int_whole (by omega) (by omega))
 obtain⟨q,hq,Q⟩:=add_whole AD BC (int_whole (by omega) (by omega))
 obtain⟨r,hr,R⟩:=add_whole F3 P (int_whole (by omega) (by omega))
 obtain⟨s,hs,S⟩:=add_whole F4 Q (int_whole (by omega) (by omega))
 refine ⟨p,q,r,s,?_,?_,?_,?_⟩
 ·simp only [cMulBits,floatBits,FloatKind.format,hac,hbd,had,hbc,hp,hq,Option.bind_some]
 ·simp only [cSumBits,floatBits,FloatKind.format,hr,hs,Option.bind_some]
 ·rwa [show tok+(rate * ticks - 1 * 0)=tok+ticks * rate by rw [Int.mul_comm ticks]; omega] at R
 ·rwa [show at'+(rate * 0+1 * ticks)=at'+ticks by omega] at S

def pairP (re im:Nat):Value:=.complex .f64 re im

theorem ponward_any (a b d e tok at' now:Int) (h:Hid (pcOne ⟨a,b,d,e⟩ ⟨tok,at'⟩=true)) (ht:Hid (pcTime now=true)):∃ re im,IsF re (pcLev ⟨a,b,d,e⟩ ⟨tok,at'⟩ now)∧IsF im (max now at')∧∀ w:World,
  Calls Try.prog 36 #[.agg #[.int .i64 a,.int .i64 b,.int .i64 d,.int .i64 e],.agg #[.int .i64 tok,.int .i64 at'],.int .i64 now] w fun e w' => e=.returned (.complex .f64 re im)∧Below w.heap.size w w':=by
 obtain⟨hm,h1,h2,h3,h4⟩:=pcOne_iff.1 h.out
 obtain⟨_,_,m1,m2,m3,m4,_,_⟩:=pcMay_iff.1 hm
 obtain⟨t1,t2⟩:=pcTime_iff.1 ht.out
 simp only at h1 h2 h3 h4 m1 m2 m3 m4
 obtain⟨p,q,r,s,e1,e2,R,S⟩:=ward_float (tok:=tok) (at':=at') (rate:=d) (ticks:=max (now - at') 0) h1 (by omega) h3 h4 m3 m4 (by omega) (by omega)
 obtain⟨m,M,hmin⟩:=run_min_whole (P:=Try.prog) R (ofInt_is (i:=b) (by omega) (by omega))
 refine ⟨m,s,?_,?_,fun w => ?_⟩
 ·have:min (tok+max (now - at') 0 * d) b=pcLev ⟨a,b,d,e⟩ ⟨tok,at'⟩ now:=by
   unfold pcLev
   simp only
   by_cases hn:now≤at'
   ·rw [if_pos hn,show max (now - at') 0=0 by omega,Int.zero_mul]
    omega
   ·rw [if_neg hn,show max (now - at') 0=now - at' by omega]
    omega
  rwa [this] at M
 ·rwa [show at'+max (now - at') 0=max now at' by omega] at S
 ·have B0:=hZq (boxes_below w a b d e tok at')
  have r1:=fun w => run_complex_mul (P:=Try.prog) w 78 _ _ _ _ _ _ e1
  have r2:=fun w => run_complex_sum (P:=Try.prog) w .add (.inl rfl) 78 .f64 _ _ _ _ _ _ e2
  have hw:IntKind.i64.wrap (now - at')=now - at':=IntWalk.i64_in _ (by omega)
  clear e1 e2 R S M h ht h1 h2 h3 h4 m1 m2 m3 m4 t1 t2 hm
  go_enter Try.func36,Try.ntmps36
  go_wp2_with fail
  go_ret
  exact⟨rfl,B0.out⟩

theorem ptokens_any {re im:Nat} {x:Int} (hx:IsF re x) (h1:-9007199254740992 < x) (h2:x < 9007199254740992) (w:World) :
  Calls Try.prog 37 #[.complex .f64 re im] w fun e w' => e=.returned (.int .i64 x)∧w=w':=by
 have hc:=fun w => run_convert_float_int (P:=Try.prog) w 95 3 .f64 .i64 re x (by kernel_rfl) (by kernel_rfl) (toInt_whole hx h1 h2)
 clear hx h1 h2
 go_enter Try.func37,Try.ntmps37
 go_wp2_with fail
 go_ret
 exact⟨rfl,rfl⟩

theorem pbucketOf_any {re im:Nat} {x y:Int} (hx:IsF re x) (h1:-9007199254740992 < x) (h2:x < 9007199254740992) (hy:IsF im y) (h3:-9007199254740992 < y) (h4:y < 9007199254740992) (w:World) :
  Calls Try.prog 38 #[.complex .f64 re im] w fun e w' => e=.returned (.agg #[.int .i64 x,.int .i64 y])∧Below w.heap.size w w':=by
 have hc:=fun w => run_convert_float_int (P:=Try.prog) w 95 3 .f64 .i64 im y (by kernel_rfl) (by kernel_rfl) (toInt_whole hy h3 h4)
 have HT:=hZq (ptokens_any (im:=im) hx h1 h2)
 clear hx hy h1 h2 h3 h4
 go_enter Try.func38,Try.ntmps38
 go_wp2_with fail
 refine (HT.out _).mono ?_
 rintro e w2 ⟨rfl,rfl⟩
 go_wp2_with fail
 refine bodyPost_ret (v:=.agg #[.int .i64 x,.int .i64 y]) (by simp [results,Try.results38,go_sem]) rfl ⟨rfl,?_⟩
 repeat (first | exact Below.refl _ _ | refine Below.setCell ?_ (by first | (simp; done) | (simp; omega)) _ | refine Below.alloc ?_ (by first | (simp; done) | (simp; omega)) _)

end Go.Proofs.Ytfocooajnignbaa
end
