/-
 TEXTS OF THE PROOF, one behind the other: ChgIns, QueFind, LnkMem, QuePush, DigRset, DigSameC.
-/
import Derived.Test.YtekkofldhhdpgaaGreatD10
import Derived.Lib.Hide
import Derived.Maps.OwnSet
import Derived.Deep.RegionHeld
import Derived.Deep.AppendLies
import Derived.WalkSpells
import Derived.StillTailTactics
import Derived.Test.YtekkofldhhdpgaaGreatD26
import Derived.Test.YtekkofldhhdpgaaGreatD20
import Derived.Deep.DeepCutAuto
import Derived.Deep.CutBlock
import Derived.Test.YtekkofldhhdpgaaGreatD09
import Derived.Test.YtekkofldhhdpgaaGreatD07
import Derived.Test.YtekkofldhhdpgaaGreatD08

set_option maxHeartbeats 12800000
set_option maxRecDepth 100000

section

namespace Go.Proofs.YtekkofldhhdpgaaGreat
open Go.RowKit

theorem chg_clone {w:World} {v:Value} {t:List Chg} (hv:RdS chgVals 6 Chg.zero w v t) (hl:t.length≤4294967) :
  Calls Tryz.prog 109 #[v] w fun e w' => ∃ u,e=.returned u∧OwnS chgVals 6 58 w' w.heap.size u t∧Below w.heap.size w w':=by
 have HV:=hZq hv
 obtain⟨a,cap,rfl,h1,h2,h3,h4⟩:=hv
 cases a with
 | none =>
  obtain rfl:cap=0:=h3 rfl
  obtain rfl:t=[]:=List.length_eq_zero_iff.1 (by omega)
  have heq:=fun w => eqlS_nil_nil chgOK w 0 0
  clear h4
  go_enter Tryz.func109,Tryz.ntmps109
  go_wp2_with fail
  go_ret
  exact⟨_,rfl,ownS_nil _ _,Below.refl _ _⟩
 | some x =>
  have HS:=hZq ((HV.out.later ((Below.refl _ _).alloc (Nat.le_refl _) (.cells #[] 58))).src chgOK)
  have heq:=fun w => eqlS_nil_some chgOK w x t.length cap
  clear h4 h3
  go_enter Tryz.func109,Tryz.ntmps109
  go_wp2_with (at_builtin; go_must (refine wpList_append_S chgOK rfl _ _ rfl w.heap.size _ [] rfl (by exact ownS_made w) (some x) t.length cap t rfl rfl (fun e => nomatch e) ?c1 (by simp only [List.length_nil]; omega) (by simp) ?_))
  case c1 => intro ad had; obtain rfl:=Option.some.inj had; exact HS.out
  intro v' w' ho' hb'
  have O:=hZq ho'
  have hbB:Hid (Below w.heap.size w w'):=((Below.refl w.heap.size w).alloc (Nat.le_refl _) _).trans hb'
  clear ho' hb'
  go_wp2_with fail
  go_ret
  exact⟨_,rfl,by have:=O.out; simpa using this,hbB.out⟩

end Go.Proofs.YtekkofldhhdpgaaGreat

end

section

namespace Go.Proofs.YtekkofldhhdpgaaGreat
open Go.RowKit

theorem twoQ {w:World} {b:Nat} {x0 x1:Value} {T:TypeId} (h:w.heap[b]?=some (.cells #[x0,x1] T (0,0))):(w.cell? ⟨b,0,none⟩=some x0∧w.cell? ⟨b,1,none⟩=some x1)∧w.frozen? ⟨b,0,none⟩=false∧w.frozen? ⟨b,1,none⟩=false :=
 ⟨⟨cell_of_row w b 0 _ _ (0,0) h,cell_of_row w b 1 _ _ (0,0) h⟩,frozen_of_row w b 0 _ _ h,frozen_of_row w b 1 _ _ h⟩

theorem sixQ {w:World} {b:Nat} {x0 x1 x2 x3 x4 x5:Value} {T:TypeId} (h:w.heap[b]?=some (.cells #[x0,x1,x2,x3,x4,x5] T (0,0))):(w.cell? ⟨b,0,none⟩=some x0∧w.cell? ⟨b,1,none⟩=some x1∧w.cell? ⟨b,2,none⟩=some x2∧w.cell? ⟨b,3,none⟩=some x3∧w.cell? ⟨b,4,none⟩=some x4∧w.cell? ⟨b,5,none⟩=some x5) ∧
  (w.frozen? ⟨b,0,none⟩=false∧w.frozen? ⟨b,1,none⟩=false∧w.frozen? ⟨b,2,none⟩=false∧w.frozen? ⟨b,3,none⟩=false∧w.frozen? ⟨b,4,none⟩=false∧w.frozen? ⟨b,5,none⟩=false) :=
 ⟨⟨cell_of_row w b 0 _ _ (0,0) h,cell_of_row w b 1 _ _ (0,0) h,cell_of_row w b 2 _ _ (0,0) h,cell_of_row w b 3 _ _ (0,0) h,cell_of_row w b 4 _ _ (0,0) h,cell_of_row w b 5 _ _ (0,0) h⟩,
  ⟨frozen_of_row w b 0 _ _ h,frozen_of_row w b 1 _ _ h,frozen_of_row w b 2 _ _ h,frozen_of_row w b 3 _ _ h,frozen_of_row w b 4 _ _ h,frozen_of_row w b 5 _ _ h⟩⟩

end Go.Proofs.YtekkofldhhdpgaaGreat

end

section

end

section

namespace Go.Proofs.YtekkofldhhdpgaaGreat
open Go.RowKit

theorem chg_store {w:World} {base g n cap:Nat} {l:List Chg} (h:OwnQ w base (.slice (some ⟨g,0,none⟩) n cap) l) {i:Nat} (hi:i < l.length) (c st:List UInt8) (on:Bool) (a b d:Int) :
  OwnQ ((((((w.setCell ⟨g,i * 6,none⟩ (.string ⟨c.toArray⟩)).setCell ⟨g,i * 6+1,none⟩ (.bool on)).setCell ⟨g,i * 6+2,none⟩ (.int .i64 a)).setCell ⟨g,i * 6+3,none⟩ (.int .i64 b)).setCell ⟨g,i * 6+4,none⟩ (.int .i64 d)).setCell ⟨g,i * 6+5,none⟩ (.string ⟨st.toArray⟩)) base (.slice (some ⟨g,0,none⟩) n cap) (l.set i ⟨c,on,⟨a,b,d,st⟩⟩) :=
 ownS_set chgOK h hi ⟨c,on,⟨a,b,d,st⟩⟩

theorem store6Q {w0 w:World} {base g:Nat} (h:Below base w0 w) (hg:base≤g) (a0 a1 a2 a3 a4 a5:Nat) (v0 v1 v2 v3 v4 v5:Value) :
  Below base w0 ((((((w.setCell ⟨g,a0,none⟩ v0).setCell ⟨g,a1,none⟩ v1).setCell ⟨g,a2,none⟩ v2).setCell ⟨g,a3,none⟩ v3).setCell ⟨g,a4,none⟩ v4).setCell ⟨g,a5,none⟩ v5) :=
 (((((h.setCell hg _).setCell hg _).setCell hg _).setCell hg _).setCell hg _).setCell hg _

theorem ownQ_other {w:World} {base:Nat} {v:Value} {l:List Chg} (h:OwnQ w base v l) {b:Nat} (hb:b < base) (j:Nat) (u:Value):OwnQ (w.setCell ⟨b,j,none⟩ u) base v l:=by
 obtain⟨h1,h2⟩:=h
 refine ⟨h1,?_⟩
 rcases h2 with h2 | ⟨g,cap,cur,e,hge,hgb,r⟩
 ·exact .inl h2
 ·exact .inr ⟨g,cap,cur,e,hge,(Below.heap_setCell _ _ _ g (by show ¬ g=b; omega)).trans hgb,r⟩

theorem own_head {w:World} {base:Nat} {v:Value} {l:List Chg} (h:OwnQ w base v l) (hl:0 < l.length):∃ g cg,v=.slice (some ⟨g,0,none⟩) l.length cg∧base≤g:=by
 rcases h.2 with ⟨rfl,h0⟩ | ⟨g,cg,cur,rfl,hb,_⟩
 ·omega
 ·exact⟨g,cg,rfl,hb⟩

theorem ownQ_shape {w:World} {base:Nat} {v:Value} {l:List Chg} (h:OwnQ w base v l):∃ a c,v=.slice a l.length c:=by
 rcases h.2 with ⟨rfl,h0⟩ | ⟨g,cg,cur,rfl,_⟩
 ·exact⟨none,0,by rw [h0]⟩
 ·exact⟨_,cg,rfl⟩

theorem set2Q {w:World} {b:Nat} {x0 x1 y0 y1:Value} {T:TypeId} (h:w.heap[b]?=some (.cells #[x0,x1] T (0,0))):((w.setCell ⟨b,0,none⟩ y0).setCell ⟨b,1,none⟩ y1).cell? ⟨b,0,none⟩=some y0∧((w.setCell ⟨b,0,none⟩ y0).setCell ⟨b,1,none⟩ y1).cell? ⟨b,1,none⟩=some y1:=by
 have h1:=heap_setCell_same w b 0 _ _ y0 h
 have h2:=heap_setCell_same _ b 1 _ _ y1 h1
 exact⟨cell_of_row _ b 0 _ _ (0,0) h2,cell_of_row _ b 1 _ _ (0,0) h2⟩

theorem qupush_1 {w:World} {v:Value} {l:List Chg} (hv:Chgs w v l) (c st:List UInt8) (on:Bool) (a b d:Int) (room:Int) :
  Calls Tryz.prog 69 #[.agg #[v,.bool true],.agg #[.string ⟨c.toArray⟩,.bool on,.int .i64 a,.int .i64 b,.int .i64 d,.string ⟨st.toArray⟩],.int .i64 room] w fun e w' => e=.returned (.agg #[v,.bool true])∧Below w.heap.size w w':=by
 obtain⟨ao,cap,rfl,hmx⟩:=hv.open'
 have b0:=bl_newZ w (.cells #[.slice ao l.length cap,.bool true] 49)
 have b1:=bl_newZ (w.alloc (.cells #[.slice ao l.length cap,.bool true] 49)) (.cells #[.string ⟨c.toArray⟩,.bool on,.int .i64 a,.int .i64 b,.int .i64 d,.string ⟨st.toArray⟩] 58)
 have b2:=bl_newZ ((w.alloc (.cells #[.slice ao l.length cap,.bool true] 49)).alloc (.cells #[.string ⟨c.toArray⟩,.bool on,.int .i64 a,.int .i64 b,.int .i64 d,.string ⟨st.toArray⟩] 58)) (.cells #[.slice none 0 0,.bool false] 49)
 have HB:=hZq (below2Z (below2Z b0 b1) b2)
 have V:=hZq (((hv.later b0).later b1).later b2)
 have A:=hZq (upQ (upQ (newQ w (.cells #[.slice ao l.length cap,.bool true] 49)) b1) b2)
 have C:=newQ (w.alloc (.cells #[.slice ao l.length cap,.bool true] 49)) (.cells #[.string ⟨c.toArray⟩,.bool on,.int .i64 a,.int .i64 b,.int .i64 d,.string ⟨st.toArray⟩] 58)
 rw [World.size_alloc] at C
 replace C:=hZq (upQ C b2)
 have R:=newQ ((w.alloc (.cells #[.slice ao l.length cap,.bool true] 49)).alloc (.cells #[.string ⟨c.toArray⟩,.bool on,.int .i64 a,.int .i64 b,.int .i64 d,.string ⟨st.toArray⟩] 58)) (.cells #[.slice none 0 0,.bool false] 49)
 rw [World.size_alloc,World.size_alloc] at R
 replace R:=hZq R
 clear b0 b1 b2 hv
 obtain⟨⟨q0,q1⟩,f0,f1⟩:=twoQ A.out
 obtain⟨⟨c_0,c_1,c_2,c_3,c_4,c_5⟩,⟨d_0,d_1,d_2,d_3,d_4,d_5⟩⟩:=sixQ C.out
 obtain⟨⟨r0,r1⟩,g0,g1⟩:=twoQ R.out
 go_enter Tryz.func69,Tryz.ntmps69
 go_wp2_with fail
 refine bodyPost_ret (v:=.agg #[.slice ao l.length cap,.bool true]) (by simp [results,Tryz.results69,go_sem]) rfl ⟨rfl,?_⟩
 exact (((Below.refl _ _).alloc (Nat.le_refl _) _).alloc (by simp) _).alloc (by simp; omega) _

theorem qupush_2 {w:World} {v:Value} {l:List Chg} (hv:Chgs w v l) (_hl:l.length≤1000) (c st:List UInt8) (on:Bool) (a b d:Int) (room:Int) (hh:quHas l c=false) (hr:room≤(l.length:Int)) :
  Calls Tryz.prog 69 #[.agg #[v,.bool false],.agg #[.string ⟨c.toArray⟩,.bool on,.int .i64 a,.int .i64 b,.int .i64 d,.string ⟨st.toArray⟩],.int .i64 room] w fun e w' => e=.returned (.agg #[.slice none 0 0,.bool true])∧Below w.heap.size w w':=by
 obtain⟨ao,cap,rfl,hmx⟩:=hv.open'
 have b0:=bl_newZ w (.cells #[.slice ao l.length cap,.bool false] 49)
 have b1:=bl_newZ (w.alloc (.cells #[.slice ao l.length cap,.bool false] 49)) (.cells #[.string ⟨c.toArray⟩,.bool on,.int .i64 a,.int .i64 b,.int .i64 d,.string ⟨st.toArray⟩] 58)
 have b2:=bl_newZ ((w.alloc (.cells #[.slice ao l.length cap,.bool false] 49)).alloc (.cells #[.string ⟨c.toArray⟩,.bool on,.int .i64 a,.int .i64 b,.int .i64 d,.string ⟨st.toArray⟩] 58)) (.cells #[.slice none 0 0,.bool false] 49)
 have HB:=hZq (below2Z (below2Z b0 b1) b2)
 have V:=hZq (((hv.later b0).later b1).later b2)
 have A:=hZq (upQ (upQ (newQ w (.cells #[.slice ao l.length cap,.bool false] 49)) b1) b2)
 have C:=newQ (w.alloc (.cells #[.slice ao l.length cap,.bool false] 49)) (.cells #[.string ⟨c.toArray⟩,.bool on,.int .i64 a,.int .i64 b,.int .i64 d,.string ⟨st.toArray⟩] 58)
 rw [World.size_alloc] at C
 replace C:=hZq (upQ C b2)
 have R:=newQ ((w.alloc (.cells #[.slice ao l.length cap,.bool false] 49)).alloc (.cells #[.string ⟨c.toArray⟩,.bool on,.int .i64 a,.int .i64 b,.int .i64 d,.string ⟨st.toArray⟩] 58)) (.cells #[.slice none 0 0,.bool false] 49)
 rw [World.size_alloc,World.size_alloc] at R
 replace R:=hZq R
 clear b0 b1 b2 hv
 have HH:=hZq hh
 have t1:decide (room≤(l.length:Int))=true:=decide_eq_true hr
 have t2:decide ((l.length:Int) < room)=false:=decide_eq_false (by omega)
 clear hh hr
 obtain⟨⟨q0,q1⟩,f0,f1⟩:=twoQ A.out
 obtain⟨⟨c_0,c_1,c_2,c_3,c_4,c_5⟩,⟨d_0,d_1,d_2,d_3,d_4,d_5⟩⟩:=sixQ C.out
 obtain⟨⟨r0,r1⟩,g0,g1⟩:=twoQ R.out
 go_enter Tryz.func69,Tryz.ntmps69
 go_wp2_with fail
 clear q0 q1 f0 f1 c_0 c_1 c_2 c_3 c_4 c_5 d_0 d_1 d_2 d_3 d_4 d_5 r0 r1 g0 g1
 refine (quplace_no V.out c HH.out).mono ?_
 rintro e w1 ⟨rfl,b1⟩
 replace V:=hZq (V.out.later b1)
 replace A:=hZq (upQ A.out b1)
 replace C:=hZq (upQ C.out b1)
 replace R:=hZq (upQ R.out b1)
 replace HB:=hZq (below2Z HB.out b1)
 clear b1
 obtain⟨⟨q0,q1⟩,f0,f1⟩:=twoQ A.out
 obtain⟨⟨c_0,c_1,c_2,c_3,c_4,c_5⟩,⟨d_0,d_1,d_2,d_3,d_4,d_5⟩⟩:=sixQ C.out
 obtain⟨⟨r0,r1⟩,g0,g1⟩:=twoQ R.out
 go_wp2_with fail
 obtain⟨z0,z1⟩:=set2Q (y0:=.slice none 0 0) (y1:=.bool true) R.out
 refine bodyPost_ret (v:=.agg #[.slice none 0 0,.bool true]) (by simp [results,Tryz.results69,go_sem,z0,z1]) rfl ⟨rfl,?_⟩
 have hle:w.heap.size≤w.heap.size+1+1:=by omega
 exact (HB.out.setCell hle _).setCell hle _

theorem qupush_3 {w:World} {v:Value} {l:List Chg} (hv:Chgs w v l) (hl:l.length≤1000) (c st:List UInt8) (on:Bool) (a b d:Int) (room:Int) (hh:quHas l c=true) :
  Calls Tryz.prog 69 #[.agg #[v,.bool false],.agg #[.string ⟨c.toArray⟩,.bool on,.int .i64 a,.int .i64 b,.int .i64 d,.string ⟨st.toArray⟩],.int .i64 room] w fun e w' => ∃ u,e=.returned (.agg #[u,.bool false])∧OwnQ w' w.heap.size u (l.set (quAt l c) ⟨c,on,⟨a,b,d,st⟩⟩)∧Below w.heap.size w w':=by
 obtain⟨ao,cap,rfl,hmx⟩:=hv.open'
 have b0:=bl_newZ w (.cells #[.slice ao l.length cap,.bool false] 49)
 have b1:=bl_newZ (w.alloc (.cells #[.slice ao l.length cap,.bool false] 49)) (.cells #[.string ⟨c.toArray⟩,.bool on,.int .i64 a,.int .i64 b,.int .i64 d,.string ⟨st.toArray⟩] 58)
 have b2:=bl_newZ ((w.alloc (.cells #[.slice ao l.length cap,.bool false] 49)).alloc (.cells #[.string ⟨c.toArray⟩,.bool on,.int .i64 a,.int .i64 b,.int .i64 d,.string ⟨st.toArray⟩] 58)) (.cells #[.slice none 0 0,.bool false] 49)
 have HB:=hZq (below2Z (below2Z b0 b1) b2)
 have V:=hZq (((hv.later b0).later b1).later b2)
 have A:=hZq (upQ (upQ (newQ w (.cells #[.slice ao l.length cap,.bool false] 49)) b1) b2)
 have C:=newQ (w.alloc (.cells #[.slice ao l.length cap,.bool false] 49)) (.cells #[.string ⟨c.toArray⟩,.bool on,.int .i64 a,.int .i64 b,.int .i64 d,.string ⟨st.toArray⟩] 58)
 rw [World.size_alloc] at C
 replace C:=hZq (upQ C b2)
 have R:=newQ ((w.alloc (.cells #[.slice ao l.length cap,.bool false] 49)).alloc (.cells #[.string ⟨c.toArray⟩,.bool on,.int .i64 a,.int .i64 b,.int .i64 d,.string ⟨st.toArray⟩] 58)) (.cells #[.slice none 0 0,.bool false] 49)
 rw [World.size_alloc,World.size_alloc] at R
 replace R:=hZq R
 clear b0 b1 b2 hv
 have HH:=hZq hh
 obtain⟨hlt,_⟩:=quAt_is hh
 obtain⟨m,hm⟩ : ∃ m,quAt l c=m:=⟨_,rfl⟩
 rw [hm] at hlt ⊢
 have HM:=hZq hm
 clear hh hm
 obtain⟨⟨q0,q1⟩,f0,f1⟩:=twoQ A.out
 obtain⟨⟨c_0,c_1,c_2,c_3,c_4,c_5⟩,⟨d_0,d_1,d_2,d_3,d_4,d_5⟩⟩:=sixQ C.out
 obtain⟨⟨r0,r1⟩,g0,g1⟩:=twoQ R.out
 go_enter Tryz.func69,Tryz.ntmps69
 go_wp2_with fail
 clear q0 q1 f0 f1 c_0 c_1 c_2 c_3 c_4 c_5 d_0 d_1 d_2 d_3 d_4 d_5 r0 r1 g0 g1
 refine (quplace_yes V.out c HH.out).mono ?_
 rintro e w1 ⟨rfl,b1⟩
 replace V:=hZq (V.out.later b1)
 replace A:=hZq (upQ A.out b1)
 replace C:=hZq (upQ C.out b1)
 replace R:=hZq (upQ R.out b1)
 replace HB:=hZq (below2Z HB.out b1)
 clear b1
 try rw [HM.out]
 obtain⟨⟨q0,q1⟩,f0,f1⟩:=twoQ A.out
 obtain⟨⟨c_0,c_1,c_2,c_3,c_4,c_5⟩,⟨d_0,d_1,d_2,d_3,d_4,d_5⟩⟩:=sixQ C.out
 obtain⟨⟨r0,r1⟩,g0,g1⟩:=twoQ R.out
 go_wp2_with fail
 clear q0 q1 f0 f1 c_0 c_1 c_2 c_3 c_4 c_5 d_0 d_1 d_2 d_3 d_4 d_5 r0 r1 g0 g1
 have hA:=(Array.getElem?_eq_some_iff.1 A.out).1
 have hR:=(Array.getElem?_eq_some_iff.1 R.out).1
 refine (chg_clone V.out.rdS (by omega)).mono ?_
 rintro e w2 ⟨u,rfl,ho,b2⟩
 replace A:=hZq (upQ A.out b2)
 replace C:=hZq (upQ C.out b2)
 replace R:=hZq (upQ R.out b2)
 replace HB:=hZq (below2Z HB.out b2)
 have hz2:=b2.size
 clear b2
 obtain⟨g,cg,rfl,hg⟩:=own_head ho (by omega)
 have O:=hZq ho
 clear ho
 obtain⟨⟨q0,q1⟩,f0,f1⟩:=twoQ A.out
 obtain⟨⟨c_0,c_1,c_2,c_3,c_4,c_5⟩,⟨d_0,d_1,d_2,d_3,d_4,d_5⟩⟩:=sixQ C.out
 obtain⟨⟨r0,r1⟩,g0,g1⟩:=twoQ R.out
 go_upto_region 8 with fail
 have A2:=heap_setCell_same w2 w.heap.size 0 _ _ (.slice (some ⟨g,0,none⟩) l.length cg) A.out
 replace C:=hZq ((Below.heap_setCell w2 ⟨w.heap.size,0,none⟩ (.slice (some ⟨g,0,none⟩) l.length cg) (w.heap.size+1) (by show ¬ w.heap.size+1=w.heap.size; omega)).trans C.out)
 replace R:=hZq ((Below.heap_setCell w2 ⟨w.heap.size,0,none⟩ (.slice (some ⟨g,0,none⟩) l.length cg) (w.heap.size+1+1) (by show ¬ w.heap.size+1+1=w.heap.size; omega)).trans R.out)
 replace O:=hZq (ownQ_other O.out hA 0 (.slice (some ⟨g,0,none⟩) l.length cg))
 replace HB:=hZq (HB.out.setCell (p:=⟨w.heap.size,0,none⟩) (Nat.le_refl _) (.slice (some ⟨g,0,none⟩) l.length cg))
 have hz3:w1.heap.size≤(w2.setCell ⟨w.heap.size,0,none⟩ (.slice (some ⟨g,0,none⟩) l.length cg)).heap.size:=by simpa using hz2
 replace A:=hZq (show _=some (Obj.cells #[.slice (some ⟨g,0,none⟩) l.length cg,.bool false] 49 (0,0)) from A2)
 clear A2 q0 q1 f0 f1 c_0 c_1 c_2 c_3 c_4 c_5 d_0 d_1 d_2 d_3 d_4 d_5 r0 r1 g0 g1
 generalize w2.setCell ⟨w.heap.size,0,none⟩ (.slice (some ⟨g,0,none⟩) l.length cg)=W2 at A C R O HB hz3 ⊢
 have O3:=hZq (chg_store O.out hlt c st on a b d)
 have B3:=hZq (store6Q HB.out (by omega:w.heap.size≤g) (m * 6) (m * 6+1) (m * 6+2) (m * 6+3) (m * 6+4) (m * 6+5) (.string ⟨c.toArray⟩) (.bool on) (.int .i64 a) (.int .i64 b) (.int .i64 d) (.string ⟨st.toArray⟩))
 have oth:∀ k,¬ k=g→((((((W2.setCell ⟨g,m * 6,none⟩ (.string ⟨c.toArray⟩)).setCell ⟨g,m * 6+1,none⟩ (.bool on)).setCell ⟨g,m * 6+2,none⟩ (.int .i64 a)).setCell ⟨g,m * 6+3,none⟩ (.int .i64 b)).setCell ⟨g,m * 6+4,none⟩ (.int .i64 d)).setCell ⟨g,m * 6+5,none⟩ (.string ⟨st.toArray⟩)).heap[k]?=W2.heap[k]?:=fun k hk => by rw [Below.heap_setCell _ _ _ k hk,Below.heap_setCell _ _ _ k hk,Below.heap_setCell _ _ _ k hk,Below.heap_setCell _ _ _ k hk,Below.heap_setCell _ _ _ k hk,Below.heap_setCell _ _ _ k hk]
 have A3:=hZq ((oth w.heap.size (by omega)).trans A.out)
 have R3:=hZq ((oth (w.heap.size+1+1) (by omega)).trans R.out)
 clear oth
 have y0f:=O.out.frozenAt (m * 6)
 have y1f:=O.out.frozenAt (m * 6+1)
 have y2f:=O.out.frozenAt (m * 6+2)
 have y3f:=O.out.frozenAt (m * 6+3)
 have y4f:=O.out.frozenAt (m * 6+4)
 have y5f:=O.out.frozenAt (m * 6+5)
 obtain⟨y0,y1,y2,y3,y4,y5⟩:=cells6_of (O.out.row chgOK hlt)
 obtain⟨⟨q0,q1⟩,f0,f1⟩:=twoQ A.out
 obtain⟨⟨c_0,c_1,c_2,c_3,c_4,c_5⟩,⟨d_0,d_1,d_2,d_3,d_4,d_5⟩⟩:=sixQ C.out
 have hnn:(0:Int)≤(m:Int):=by omega
 have hli:(m:Int) < (l.length:Int):=by omega
 go_upto_region 10 with fail
 clear q0 q1 f0 f1 c_0 c_1 c_2 c_3 c_4 c_5 d_0 d_1 d_2 d_3 d_4 d_5 y0 y1 y2 y3 y4 y5 y0f y1f y2f y3f y4f y5f hnn hli A C R HB O
 generalize ((((((W2.setCell ⟨g,m * 6,none⟩ (.string ⟨c.toArray⟩)).setCell ⟨g,m * 6+1,none⟩ (.bool on)).setCell ⟨g,m * 6+2,none⟩ (.int .i64 a)).setCell ⟨g,m * 6+3,none⟩ (.int .i64 b)).setCell ⟨g,m * 6+4,none⟩ (.int .i64 d)).setCell ⟨g,m * 6+5,none⟩ (.string ⟨st.toArray⟩))=W3 at A3 R3 O3 B3 ⊢
 obtain⟨⟨q0,q1⟩,f0,f1⟩:=twoQ A3.out
 obtain⟨⟨r0,r1⟩,g0,g1⟩:=twoQ R3.out
 go_wp2_with fail
 obtain⟨z0,z1⟩:=set2Q (y0:=.slice (some ⟨g,0,none⟩) l.length cg) (y1:=.bool false) R3.out
 have hle:w.heap.size≤w.heap.size+1+1:=by omega
 exact bodyPost_ret (v:=.agg #[.slice (some ⟨g,0,none⟩) l.length cg,.bool false]) (by simp [results,Tryz.results69,go_sem,z0,z1]) rfl ⟨_,rfl,ownS_low (ownQ_other (ownQ_other O3.out hR _ _) hR _ _) (Nat.le_of_lt hA),(B3.out.setCell hle _).setCell hle _⟩

theorem qupush_4 {w:World} {v:Value} {l:List Chg} (hv:Chgs w v l) (hl:l.length≤1000) (c st:List UInt8) (on:Bool) (a b d:Int) (room:Int) (hh:quHas l c=false) (hr:(l.length:Int) < room) :
  Calls Tryz.prog 69 #[.agg #[v,.bool false],.agg #[.string ⟨c.toArray⟩,.bool on,.int .i64 a,.int .i64 b,.int .i64 d,.string ⟨st.toArray⟩],.int .i64 room] w fun e w' => ∃ u,e=.returned (.agg #[u,.bool false])∧OwnQ w' w.heap.size u (l ++ [⟨c,on,⟨a,b,d,st⟩⟩])∧Below w.heap.size w w':=by
 obtain⟨ao,cap,rfl,hmx⟩:=hv.open'
 have b0:=bl_newZ w (.cells #[.slice ao l.length cap,.bool false] 49)
 have b1:=bl_newZ (w.alloc (.cells #[.slice ao l.length cap,.bool false] 49)) (.cells #[.string ⟨c.toArray⟩,.bool on,.int .i64 a,.int .i64 b,.int .i64 d,.string ⟨st.toArray⟩] 58)
 have b2:=bl_newZ ((w.alloc (.cells #[.slice ao l.length cap,.bool false] 49)).alloc (.cells #[.string ⟨c.toArray⟩,.bool on,.int .i64 a,.int .i64 b,.int .i64 d,.string ⟨st.toArray⟩] 58)) (.cells #[.slice none 0 0,.bool false] 49)
 have HB:=hZq (below2Z (below2Z b0 b1) b2)
 have V:=hZq (((hv.later b0).later b1).later b2)
 have A:=hZq (upQ (upQ (newQ w (.cells #[.slice ao l.length cap,.bool false] 49)) b1) b2)
 have C:=newQ (w.alloc (.cells #[.slice ao l.length cap,.bool false] 49)) (.cells #[.string ⟨c.toArray⟩,.bool on,.int .i64 a,.int .i64 b,.int .i64 d,.string ⟨st.toArray⟩] 58)
 rw [World.size_alloc] at C
 replace C:=hZq (upQ C b2)
 have R:=newQ ((w.alloc (.cells #[.slice ao l.length cap,.bool false] 49)).alloc (.cells #[.string ⟨c.toArray⟩,.bool on,.int .i64 a,.int .i64 b,.int .i64 d,.string ⟨st.toArray⟩] 58)) (.cells #[.slice none 0 0,.bool false] 49)
 rw [World.size_alloc,World.size_alloc] at R
 replace R:=hZq R
 clear b0 b1 b2 hv
 have HH:=hZq hh
 have t1:decide (room≤(l.length:Int))=false:=decide_eq_false (by omega)
 have t2:decide ((l.length:Int) < room)=true:=decide_eq_true hr
 clear hh hr
 obtain⟨⟨q0,q1⟩,f0,f1⟩:=twoQ A.out
 obtain⟨⟨c_0,c_1,c_2,c_3,c_4,c_5⟩,⟨d_0,d_1,d_2,d_3,d_4,d_5⟩⟩:=sixQ C.out
 obtain⟨⟨r0,r1⟩,g0,g1⟩:=twoQ R.out
 go_enter Tryz.func69,Tryz.ntmps69
 go_wp2_with fail
 clear q0 q1 f0 f1 c_0 c_1 c_2 c_3 c_4 c_5 d_0 d_1 d_2 d_3 d_4 d_5 r0 r1 g0 g1
 refine (quplace_no V.out c HH.out).mono ?_
 rintro e w1 ⟨rfl,b1⟩
 replace V:=hZq (V.out.later b1)
 replace A:=hZq (upQ A.out b1)
 replace C:=hZq (upQ C.out b1)
 replace R:=hZq (upQ R.out b1)
 replace HB:=hZq (below2Z HB.out b1)
 clear b1
 obtain⟨⟨q0,q1⟩,f0,f1⟩:=twoQ A.out
 obtain⟨⟨c_0,c_1,c_2,c_3,c_4,c_5⟩,⟨d_0,d_1,d_2,d_3,d_4,d_5⟩⟩:=sixQ C.out
 obtain⟨⟨r0,r1⟩,g0,g1⟩:=twoQ R.out
 go_wp2_with fail
 clear q0 q1 f0 f1 c_0 c_1 c_2 c_3 c_4 c_5 d_0 d_1 d_2 d_3 d_4 d_5 r0 r1 g0 g1
 have hA:=(Array.getElem?_eq_some_iff.1 A.out).1
 have hR:=(Array.getElem?_eq_some_iff.1 R.out).1
 refine (chg_clone V.out.rdS (by omega)).mono ?_
 rintro e w2 ⟨u,rfl,ho,b2⟩
 replace A:=hZq (upQ A.out b2)
 replace C:=hZq (upQ C.out b2)
 replace R:=hZq (upQ R.out b2)
 replace HB:=hZq (below2Z HB.out b2)
 have hz2:=b2.size
 clear b2
 obtain⟨ga,cg,rfl⟩:=ownQ_shape ho
 have O:=hZq ho
 clear ho
 obtain⟨⟨q0,q1⟩,f0,f1⟩:=twoQ A.out
 obtain⟨⟨c_0,c_1,c_2,c_3,c_4,c_5⟩,⟨d_0,d_1,d_2,d_3,d_4,d_5⟩⟩:=sixQ C.out
 obtain⟨⟨r0,r1⟩,g0,g1⟩:=twoQ R.out
 go_upto_region 9 with fail
 have A2:=heap_setCell_same w2 w.heap.size 0 _ _ (.slice ga l.length cg) A.out
 replace C:=hZq ((Below.heap_setCell w2 ⟨w.heap.size,0,none⟩ (.slice ga l.length cg) (w.heap.size+1) (by show ¬ w.heap.size+1=w.heap.size; omega)).trans C.out)
 replace R:=hZq ((Below.heap_setCell w2 ⟨w.heap.size,0,none⟩ (.slice ga l.length cg) (w.heap.size+1+1) (by show ¬ w.heap.size+1+1=w.heap.size; omega)).trans R.out)
 replace O:=hZq (ownQ_other O.out hA 0 (.slice ga l.length cg))
 replace HB:=hZq (HB.out.setCell (p:=⟨w.heap.size,0,none⟩) (Nat.le_refl _) (.slice ga l.length cg))
 have hz3:w1.heap.size≤(w2.setCell ⟨w.heap.size,0,none⟩ (.slice ga l.length cg)).heap.size:=by simpa using hz2
 replace A:=hZq (show _=some (Obj.cells #[.slice ga l.length cg,.bool false] 49 (0,0)) from A2)
 clear A2 q0 q1 f0 f1 c_0 c_1 c_2 c_3 c_4 c_5 d_0 d_1 d_2 d_3 d_4 d_5 r0 r1 g0 g1
 generalize w2.setCell ⟨w.heap.size,0,none⟩ (.slice ga l.length cg)=W2 at A C R O HB hz3 ⊢
 have O2:=hZq (OwnS.alloc O.out (.cells #[.string ⟨c.toArray⟩,.bool on,.int .i64 a,.int .i64 b,.int .i64 d,.string ⟨st.toArray⟩] 58))
 have HB2:=hZq (below2Z HB.out (bl_newZ W2 (.cells #[.string ⟨c.toArray⟩,.bool on,.int .i64 a,.int .i64 b,.int .i64 d,.string ⟨st.toArray⟩] 58)))
 have C4:=hZq (srcS_new (vals:=chgVals) (w:=W2) (r:=⟨c,on,⟨a,b,d,st⟩⟩) (cs:=#[.string ⟨c.toArray⟩,.bool on,.int .i64 a,.int .i64 b,.int .i64 d,.string ⟨st.toArray⟩]) (e:=58) rfl (B:=W2.heap.size) rfl)
 have hz2:=HB2.out.size
 have A4:=hZq (upQ A.out (bl_newZ W2 (.cells #[.string ⟨c.toArray⟩,.bool on,.int .i64 a,.int .i64 b,.int .i64 d,.string ⟨st.toArray⟩] 58)))
 have R4:=hZq (upQ R.out (bl_newZ W2 (.cells #[.string ⟨c.toArray⟩,.bool on,.int .i64 a,.int .i64 b,.int .i64 d,.string ⟨st.toArray⟩] 58)))
 obtain⟨⟨q0,q1⟩,f0,f1⟩:=twoQ A.out
 obtain⟨⟨c_0,c_1,c_2,c_3,c_4,c_5⟩,⟨d_0,d_1,d_2,d_3,d_4,d_5⟩⟩:=sixQ C.out
 go_wp2_with (at_builtin; refine wpList_append_S chgOK rfl _ _ rfl w1.heap.size _ l rfl O2.out (some ⟨W2.heap.size,0,none⟩) 1 1 [⟨c,on,⟨a,b,d,st⟩⟩] rfl rfl (fun e => by cases e) C4.out (by simp only [List.length_cons,List.length_nil]; omega) (by rw [World.size_alloc]; omega) ?_)
 intro v' w3 ho' hb'
 have A5:=hZq ((hb'.block _ hA).trans A4.out)
 have R5:=hZq ((hb'.block _ hR).trans R4.out)
 have HB5:=hZq (HB2.out.trans (hb'.mono (Nat.le_of_lt hA)))
 obtain⟨gv,cv,rfl⟩ : ∃ a c,v'=.slice a (l.length+1) c:=by obtain⟨a',c',e⟩:=ownQ_shape ho'; exact⟨a',c',by rw [e,List.length_append]; rfl⟩
 have O5:=hZq ho'
 clear ho' hb' O2 HB2 C4 A4 R4 A C R O HB q0 q1 f0 f1 c_0 c_1 c_2 c_3 c_4 c_5 d_0 d_1 d_2 d_3 d_4 d_5
 obtain⟨⟨q0,q1⟩,f0,f1⟩:=twoQ A5.out
 go_upto_region 10 with fail
 have A6:=hZq (show _=some (Obj.cells #[.slice gv (l.length+1) cv,.bool false] 49 (0,0)) from heap_setCell_same w3 w.heap.size 0 _ _ (.slice gv (l.length+1) cv) A5.out)
 have R6:=hZq ((Below.heap_setCell w3 ⟨w.heap.size,0,none⟩ (.slice gv (l.length+1) cv) (w.heap.size+1+1) (by show ¬ w.heap.size+1+1=w.heap.size; omega)).trans R5.out)
 have O6:=hZq (ownQ_other O5.out hA 0 (.slice gv (l.length+1) cv))
 have HB6:=hZq (HB5.out.setCell (p:=⟨w.heap.size,0,none⟩) (Nat.le_refl _) (.slice gv (l.length+1) cv))
 clear A5 R5 O5 HB5 q0 q1 f0 f1
 generalize (w3.setCell ⟨w.heap.size,0,none⟩ (.slice gv (l.length+1) cv))=W6 at A6 R6 O6 HB6 ⊢
 obtain⟨⟨q0,q1⟩,f0,f1⟩:=twoQ A6.out
 obtain⟨⟨r0,r1⟩,g0,g1⟩:=twoQ R6.out
 go_wp2_with fail
 obtain⟨z0,z1⟩:=set2Q (y0:=.slice gv (l.length+1) cv) (y1:=.bool false) R6.out
 have hle:w.heap.size≤w.heap.size+1+1:=by omega
 exact bodyPost_ret (v:=.agg #[.slice gv (l.length+1) cv,.bool false]) (by simp [results,Tryz.results69,go_sem,z0,z1]) rfl ⟨_,rfl,ownS_low (ownQ_other (ownQ_other O6.out hR _ _) hR _ _) (Nat.le_of_lt hA),(HB6.out.setCell hle _).setCell hle _⟩

end Go.Proofs.YtekkofldhhdpgaaGreat

end

section

namespace Go.Proofs.YtekkofldhhdpgaaGreat
open Go.RowKit

theorem rest_in {t:List Row} {k:Nat} (h:k < t.length) {x:List UInt8} (hc:¬ (t.getD k Row.zero).c=x):diRest (t.take (k+1)) x=diRest (t.take k) x ++ [t.getD k Row.zero]:=by
 have h1:((t.getD k Row.zero).c == x)=false:=by simpa using hc
 rw [List.take_succ_eq_append_getElem h,row_get h]
 unfold diRest
 rw [List.filter_append,List.filter_cons_of_pos (by simp only [h1]; rfl),List.filter_nil]

theorem rest_out {t:List Row} {k:Nat} (h:k < t.length) {x:List UInt8} (hc:(t.getD k Row.zero).c=x):diRest (t.take (k+1)) x=diRest (t.take k) x:=by
 have h1:((t.getD k Row.zero).c == x)=true:=by simpa using hc
 rw [List.take_succ_eq_append_getElem h,row_get h]
 unfold diRest
 rw [List.filter_append,List.filter_cons_of_neg (by simp only [h1]; decide),List.filter_nil,List.append_nil]

theorem plc_yes {t:List Row} {x:List UInt8} {k:Nat} (h:idLess (t.getD k Row.zero).c x=true):plc t x (k+1)=k+1:=by rw [plc,if_pos h]
theorem plc_no {t:List Row} {x:List UInt8} {k:Nat} (h:idLess (t.getD k Row.zero).c x=false):plc t x (k+1)=plc t x k:=by rw [plc,if_neg (by rw [h]; decide)]

set_option maxRecDepth 1000000 in
theorem rset_any {w:World} {v:Value} {t:List Row} (hv:Tab w v t) (hl:t.length≤1000) (c:Chg) :
  Calls Tryz.prog 30 #[v,chgAgg c] w fun e w' => ∃ u,e=.returned u∧OwnR w' w.heap.size u (diSet t c)∧Below w.heap.size w w':=by
 obtain⟨x,on,sh,pr,si,st⟩:=c
 have HV:=hZq (hv.later ((Below.refl _ _).alloc (Nat.le_refl _) (.cells #[.string ⟨x.toArray⟩,.bool on,.int .i64 sh,.int .i64 pr,.int .i64 si,.string ⟨st.toArray⟩] 58)))
 obtain⟨a,cap,rfl,hm⟩:=hv.open'
 unfold chgAgg
 obtain⟨k0,k1,k2,k3,k4,k5⟩:=six_cells w (.string ⟨x.toArray⟩) (.bool on) (.int .i64 sh) (.int .i64 pr) (.int .i64 si) (.string ⟨st.toArray⟩) 58
 have K0:=hZq k0
 have K1:=hZq k1
 have K2:=hZq k2
 have K3:=hZq k3
 have K4:=hZq k4
 have K5:=hZq k5
 have hz0:Hid ((w.alloc (.cells #[.string ⟨x.toArray⟩,.bool on,.int .i64 sh,.int .i64 pr,.int .i64 si,.string ⟨st.toArray⟩] 58)).heap.size=w.heap.size+1):=hZq (by simp)
 have BW:Hid (Below w.heap.size w (w.alloc (.cells #[.string ⟨x.toArray⟩,.bool on,.int .i64 sh,.int .i64 pr,.int .i64 si,.string ⟨st.toArray⟩] 58))):=(Below.refl _ _).alloc (Nat.le_refl _) _
 obtain⟨W0,hW0⟩ : ∃ W0,W0=w.alloc (.cells #[.string ⟨x.toArray⟩,.bool on,.int .i64 sh,.int .i64 pr,.int .i64 si,.string ⟨st.toArray⟩] 58):=⟨_,rfl⟩
 rw [← hW0] at HV K0 K1 K2 K3 K4 K5 hz0 BW
 clear hv k0 k1 k2 k3 k4 k5
 go_enter Tryz.func30,Tryz.ntmps30
 go_wp2_with fail
 rw [← hW0]
 clear hW0
 go_loopw [5,6] (fun s i wr => ∃ k:Nat,k≤t.length∧i=.int .i64 k∧Hid (OwnR wr W0.heap.size s (diRest (t.take k) x))∧Hid (Below W0.heap.size W0 wr)) (fun _ i _ => t.length - (intOf i).toNat)
 case atStart => exact⟨0,by omega,rfl,ownR_nil _ _,Below.refl _ _⟩
 case round =>
  obtain⟨k,hk,rfl,HO,HN⟩:=hrel
  by_cases hlt:k < t.length
  ·obtain⟨b,off,rfl,h0,h1,h2,h3,h4⟩:=HV.out.row HN.out k hlt
   have kx:=cell_later K0.out HN.out
   obtain⟨⟨c,⟨x1,y1,z1,s1⟩⟩,hr⟩ : ∃ r,t.getD k Row.zero=r:=⟨_,rfl⟩
   have hri:=rest_in hlt (x:=x)
   have hro:=rest_out hlt (x:=x)
   rw [hr] at h0 h1 h2 h3 h4 hri hro
   simp only at h0 h1 h2 h3 h4 hri hro
   have hrl:(diRest (t.take k) x).length≤1000:=by have:=diRest_len (t.take k) x; rw [List.length_take] at this; omega
   by_cases hc:c=x
   ·have HX:=hZq (hro hc)
    subst hc
    clear hri hro hr
    go_wp2_with fail
    go_region
    go_wp2_with fail
    go_roundw
    case rel => exact⟨k+1,by omega,by go_num,by rw [HX.out]; exact HO.out.drew,HN.out.drew⟩
    case measure => simp [intOf]; omega
   ·have HX:=hZq (hri hc)
    have t1:(c == x)=false:=by simpa using hc
    have t2:(c != x)=true:=by simpa using hc
    clear hri hro hr hc
    have O2:=hZq (HO.out.drew.alloc (.cells #[.string ⟨c.toArray⟩,.int .i64 x1,.int .i64 y1,.int .i64 z1,.string ⟨s1.toArray⟩] 93))
    have N2:=hZq (bl_alloc HN.out.drew (.cells #[.string ⟨c.toArray⟩,.int .i64 x1,.int .i64 y1,.int .i64 z1,.string ⟨s1.toArray⟩] 93))
    have hz3:=N2.out.size
    clear HO
    go_wp2_with fail
    go_region
    go_wp2_with (at_builtin; go_must (refine wpList_append_rows rfl _ _ rfl W0.heap.size _ (diRest (t.take k) x) rfl (by exact O2.out) _ 1 1 [⟨c,x1,y1,z1,s1⟩] rfl rfl (fun e => nomatch e) ?c1 (by simp only [List.length_cons,List.length_nil]; omega) hz3 ?_))
    case c1 => exact new_row (by simp)
    intro v' w' hown' hb'
    rw [← HX.out] at hown'
    have O3:=hZq hown'
    have N3:=hZq (N2.out.trans hb')
    clear hown' hb' O2 h0 h1 h2 h3 h4
    go_wp2_with fail
    go_roundw
    case rel => exact⟨k+1,by omega,by go_num,O3,N3⟩
    case measure => simp [intOf]; omega
  ·obtain rfl:k=t.length:=by omega
   have ho:=HO.out
   rw [List.take_length] at ho
   have O1:=hZq ho
   have kx:=cell_later K0.out HN.out
   have ko:=cell_later K1.out HN.out
   clear ho HO hlt hk
   obtain⟨R,hR⟩ : ∃ R,diRest t x=R:=⟨_,rfl⟩
   have hRl:=diRest_len t x
   rw [hR] at O1 hRl
   have Bw:=hZq (BW.out.trans (HN.out.mono (by rw [hz0.out]; omega)))
   cases on with
   | false =>
    have HE:Hid (diSet t ⟨x,false,⟨sh,pr,si,st⟩⟩=R):=by show _=_; rw [← hR]; exact diSet_off rfl
    go_wp2_with fail
    go_ret
    exact⟨_,rfl,by rw [HE.out]; exact ownR_low O1.out (by rw [hz0.out]; omega),Bw.out⟩
   | true =>
    have HE:Hid (diSet t ⟨x,true,⟨sh,pr,si,st⟩⟩=put1 R (plc R x R.length) ⟨x,⟨sh,pr,si,st⟩⟩):=by show _=_; rw [← hR]; exact diSet_on rfl
    have k2:=hZq (cell_later K2.out HN.out)
    have k3:=hZq (cell_later K3.out HN.out)
    have k4:=hZq (cell_later K4.out HN.out)
    have k5:=hZq (cell_later K5.out HN.out)
    have kx':=hZq kx
    clear hR HV BW K0 K1 K2 K3 K4 K5 HN
    obtain⟨w1,hw1⟩ : ∃ w1,w1=wr:=⟨_,rfl⟩
    subst hw1
    obtain⟨ao,cap2,rfl,hRm⟩:=O1.out.tab.open'
    clear hm kx'
    go_wp2_with fail
    go_loopw [7,8] (fun at' i w2 => ∃ k:Nat,k≤R.length∧i=.int .i64 k∧at'=.int .i64 (plc R x k)∧Hid (Below w1.heap.size w1 w2)) (fun _ i _ => R.length - (intOf i).toNat)
    case atStart => exact⟨0,by omega,rfl,rfl,Below.refl _ _⟩
    case round =>
     obtain⟨k,hk,rfl,rfl,HN⟩:=hrel
     by_cases hlt:k < R.length
     ·obtain⟨b,off,rfl,h0,h1,h2,h3,h4⟩:=O1.out.tab.row HN.out k hlt
      have kx2:=cell_later kx HN.out
      obtain⟨yy,hy⟩ : ∃ yy,(R.getD k Row.zero).c=yy:=⟨_,rfl⟩
      rw [hy] at h0
      have g0:=cell_regrown h0
      have g1:=cell_regrown kx2
      cases hle:idLess yy x with
      | false =>
       have HP:Hid (plc R x (k+1)=plc R x k):=by show _=_; exact plc_no (by rw [hy]; exact hle)
       have HLe:=hZq (rless_eq yy x (r:=false) (hZq hle))
       clear hle hy h0 h1 h2 h3 h4
       go_wp2_with fail
       refine wp_region_quiet_below (by kernel_rfl) (by kernel_rfl) ?_
       repeat (go_big_quiet_step (with_reducible exact rgS HLe.out _ _ _))
       refine wpQuiet_nil ?_
       intro w5 hw5
       have N5:=hZq (below2' HN.out (regrown_belowD hw5))
       clear hw5 g0 g1
       go_wp2_with fail
       go_roundw
       case rel => exact⟨k+1,by omega,by go_num,by rw [HP.out],N5⟩
       case measure => simp [intOf]; omega
      | true =>
       have HP:Hid (plc R x (k+1)=k+1):=by show _=_; exact plc_yes (by rw [hy]; exact hle)
       have HLe:=hZq (rless_eq yy x (r:=true) (hZq hle))
       clear hle hy h0 h1 h2 h3 h4
       go_wp2_with fail
       refine wp_region_quiet_below (by kernel_rfl) (by kernel_rfl) ?_
       repeat (go_big_quiet_step (with_reducible exact rgS HLe.out _ _ _))
       refine wpQuiet_nil ?_
       intro w5 hw5
       have N5:=hZq (below2' HN.out (regrown_belowD hw5))
       clear hw5 g0 g1
       go_wp2_with fail
       go_roundw
       case rel => exact⟨k+1,by omega,by go_num,by rw [HP.out]; go_num,N5⟩
       case measure => simp [intOf]; omega
     ·obtain rfl:k=R.length:=by omega
      have hP:=plc_le R x R.length
      obtain⟨P,hPe⟩ : ∃ P,plc R x R.length=P:=⟨_,rfl⟩
      rw [hPe] at HE hP ⊢
      have O2:=hZq (O1.out.later HN.out)
      have kx2:=hZq (cell_later kx HN.out)
      have n2:=hZq (cell_later k2.out HN.out)
      have n3:=hZq (cell_later k3.out HN.out)
      have n4:=hZq (cell_later k4.out HN.out)
      have n5:=hZq (cell_later k5.out HN.out)
      have B2:=hZq (below2' Bw.out HN.out)
      have hPn:(P:Int)≤(R.length:Int):=by omega
      have hF:Hid (R.take P ++ [(⟨x,⟨sh,pr,si,st⟩⟩ : Row)] ++ R.drop P=put1 R P ⟨x,⟨sh,pr,si,st⟩⟩):=by show _=_; unfold put1; rw [List.append_assoc]
      clear hPe HN Bw O1 kx k2 k3 k4 k5 ko hlt hk
      rcases O2.out.2 with ⟨hn,h0⟩ | ⟨g,cap',cur,hn,_,_,hnc,hcm,_⟩
      ·simp only [Value.slice.injEq] at hn
       obtain⟨rfl,_,rfl⟩:=hn
       obtain rfl:R=[]:=List.length_eq_zero_iff.1 h0
       obtain rfl:P=0:=by simpa using hP
       clear h0
       go_wp2_with (at_builtin; go_must (refine wpList_append_rows rfl _ _ rfl wr.heap.size _ [] rfl (by exact ownR_made wr) none 0 0 [] rfl rfl (fun e => ⟨rfl,rfl⟩) (fun ad had => nomatch had) (by simp) (by simp) ?_))
       intro v3 w3 h3 hb3
       have C3:Hid (Below wr.heap.size wr w3):=((Below.refl _ _).alloc (Nat.le_refl _) _).trans hb3
       have kx3:=cell_later kx2.out C3.out
       have n23:=cell_later n2.out C3.out
       have n33:=cell_later n3.out C3.out
       have n43:=cell_later n4.out C3.out
       have n53:=cell_later n5.out C3.out
       have hz3:=hZq C3.out.size
       have O4:=hZq (h3.alloc (.cells #[.string ⟨x.toArray⟩,.int .i64 sh,.int .i64 pr,.int .i64 si,.string ⟨st.toArray⟩] 93))
       clear h3 hb3
       go_wp2_with (at_builtin; go_must (refine wpList_append_rows rfl _ _ rfl wr.heap.size _ ([] ++ []) rfl (by exact O4.out) _ 1 1 [⟨x,⟨sh,pr,si,st⟩⟩] rfl rfl (fun e => nomatch e) ?c2 (by simp) (by have:=hz3.out; simp; omega) ?_))
       case c2 => exact new_row (by simp)
       intro v4 w4 h4 hb4
       have C4:Hid (Below wr.heap.size wr w4):=(bl_alloc C3.out _).trans hb4
       have O5:=hZq h4
       have hz4:=hZq C4.out.size
       clear h4 hb4 O4 kx3 n23 n33 n43 n53
       go_wp2_with (at_builtin; go_must (refine wpList_append_rows rfl _ _ rfl wr.heap.size _ ([] ++ [] ++ [⟨x,⟨sh,pr,si,st⟩⟩]) rfl (by exact O5.out) none 0 0 [] rfl rfl (fun e => ⟨rfl,rfl⟩) (fun ad had => nomatch had) (by simp) hz4.out ?_))
       intro v5 w5 h5 hb5
       have O6:Hid (OwnR w5 wr.heap.size v5 (put1 [] 0 ⟨x,⟨sh,pr,si,st⟩⟩)):=hZq (by simpa [put1] using h5)
       have B6:=hZq (below2' B2.out ((C4.out.trans hb5)))
       clear h5 hb5
       go_wp2_with fail
       go_ret
       exact⟨_,rfl,by rw [HE.out]; exact ownR_low O6.out B2.out.size,B6.out⟩
      ·unfold maxLen at hcm
       simp only [Value.slice.injEq,true_and] at hn
       obtain⟨rfl,rfl⟩:=hn
       have S1:=hZq ((O2.out.alloc (.cells #[] 93)).src 0 P (by omega))
       have hl1:(R.take P).length=P:=by rw [List.length_take]; omega
       have hPc:P≤cap2:=by omega
       go_wp2_with (at_builtin; go_must (refine wpList_append_rows rfl _ _ rfl wr.heap.size _ [] rfl (by exact ownR_made wr) (some ⟨g,0,none⟩) P cap2 (R.take P) rfl hl1.symm (fun e => nomatch e) ?c1 (by simp only [List.length_nil,hl1]; omega) (by simp) ?_))
       case c1 => intro ad had; obtain rfl:=Option.some.inj had; have:=S1.out; rw [Nat.zero_mul,List.drop_zero] at this; exact this
       intro v3 w3 h3 hb3
       have O3:=hZq h3
       have C3:Hid (Below wr.heap.size wr w3):=((Below.refl _ _).alloc (Nat.le_refl _) _).trans hb3
       have kx3:=cell_later kx2.out C3.out
       have n23:=cell_later n2.out C3.out
       have n33:=cell_later n3.out C3.out
       have n43:=cell_later n4.out C3.out
       have n53:=cell_later n5.out C3.out
       have hz3:=hZq C3.out.size
       have O4:=hZq (h3.alloc (.cells #[.string ⟨x.toArray⟩,.int .i64 sh,.int .i64 pr,.int .i64 si,.string ⟨st.toArray⟩] 93))
       clear h3 hb3 S1 O3
       go_wp2_with (at_builtin; go_must (refine wpList_append_rows rfl _ _ rfl wr.heap.size _ ([] ++ R.take P) rfl (by exact O4.out) _ 1 1 [⟨x,⟨sh,pr,si,st⟩⟩] rfl rfl (fun e => nomatch e) ?c2 (by simp only [List.nil_append,List.length_cons,List.length_nil,hl1]; omega) (by have:=hz3.out; simp; omega) ?_))
       case c2 => exact new_row (by simp)
       intro v4 w4 h4 hb4
       have C4:Hid (Below wr.heap.size wr w4):=(bl_alloc C3.out _).trans hb4
       have O5:=hZq h4
       clear h4 hb4 O4 kx3 n23 n33 n43 n53
       have hz4:=hZq C4.out.size
       have S4:=hZq ((O2.out.later C4.out).src P (R.length - P) (by omega))
       have hl2:((R.drop P).take (R.length - P)).length=R.length - P:=by rw [List.length_take,List.length_drop]; omega
       have e2:(R.drop P).take (R.length - P)=R.drop P:=List.take_of_length_le (by rw [List.length_drop]; omega)
       rw [e2] at S4 hl2
       have hF2:Hid ([] ++ R.take P ++ [(⟨x,⟨sh,pr,si,st⟩⟩ : Row)] ++ R.drop P=put1 R P ⟨x,⟨sh,pr,si,st⟩⟩):=by show _=_; rw [List.nil_append]; exact hF.out
       have hlen4:([] ++ R.take P ++ [(⟨x,⟨sh,pr,si,st⟩⟩ : Row)]).length=P+1:=by simp only [List.nil_append,List.length_append,List.length_cons,List.length_nil,hl1]
       clear e2
       by_cases hcP:cap2=P
       ·have h00:R.length - P=0:=by omega
        have hd0:R.drop P=[]:=List.drop_of_length_le (by omega)
        rw [hd0] at hF2
        obtain rfl:P=R.length:=by omega
        subst hcP
        go_wp2_with (at_builtin; go_must (refine wpList_append_rows rfl _ _ rfl wr.heap.size _ ([] ++ R.take R.length ++ [⟨x,⟨sh,pr,si,st⟩⟩]) rfl (by exact O5.out) (some ⟨g,0,none⟩) 0 0 [] rfl rfl (fun e => nomatch e) ?c3 (by rw [hlen4]; simp only [List.length_nil]; omega) hz4.out ?_))
        case c3 => intro ad had j u hu; simp [cellsOf] at hu
        intro v5 w5 h5 hb5
        have O6:Hid (OwnR w5 wr.heap.size v5 (put1 R R.length ⟨x,⟨sh,pr,si,st⟩⟩)):=hZq (by rw [← hF2.out]; simpa using h5)
        have B6:=hZq (below2' B2.out ((C4.out.trans hb5)))
        clear h5 hb5
        go_wp2_with fail
        go_ret
        exact⟨_,rfl,by rw [HE.out]; exact ownR_low O6.out B2.out.size,B6.out⟩
       ·go_wp2_with (at_builtin; go_must (refine wpList_append_rows rfl _ _ rfl wr.heap.size _ ([] ++ R.take P ++ [⟨x,⟨sh,pr,si,st⟩⟩]) rfl (by exact O5.out) (some ⟨g,P * 5,none⟩) (R.length - P) (cap2 - P) (R.drop P) rfl hl2.symm (fun e => nomatch e) ?c3 (by rw [hlen4,List.length_drop]; omega) hz4.out ?_))
        case c3 => intro ad had; obtain rfl:=Option.some.inj had; exact S4.out
        intro v5 w5 h5 hb5
        have O6:Hid (OwnR w5 wr.heap.size v5 (put1 R P ⟨x,⟨sh,pr,si,st⟩⟩)):=hZq (by rw [← hF2.out]; simpa using h5)
        have B6:=hZq (below2' B2.out ((C4.out.trans hb5)))
        clear h5 hb5
        go_wp2_with fail
        go_ret
        exact⟨_,rfl,by rw [HE.out]; exact ownR_low O6.out B2.out.size,B6.out⟩

end Go.Proofs.YtekkofldhhdpgaaGreat

end

section

namespace Go.Proofs.YtekkofldhhdpgaaGreat
open Go.RowKit

def csSame (a b:List Chg):Bool:=decide (a.length=b.length) && (List.range a.length).all fun i => cSame (a.getD i Chg.zero) (b.getD i Chg.zero)

end Go.Proofs.YtekkofldhhdpgaaGreat

end
