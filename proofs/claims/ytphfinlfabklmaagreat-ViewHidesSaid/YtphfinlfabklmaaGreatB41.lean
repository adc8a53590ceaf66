/-
 TEXTS OF THE PROOF, one behind the other: StaTouch.
-/
import Derived.Test.YtphfinlfabklmaaGreatB23
import Derived.Test.YtphfinlfabklmaaGreatB16

set_option maxHeartbeats 12800000
set_option maxRecDepth 100000

namespace Go.Proofs.YtphfinlfabklmaaGreat
open Go.RowKit

theorem cells_up {A:Nat} {W X:World} {B:Nat} {vs:List Value} (h:CellsAt W B 0 vs) (hb:Below A W X) (hA:B < A):CellsAt X B 0 vs:=fun j u hu =>
 (hb.cell (p:=⟨B,0+j,none⟩) hA).trans (h j u hu)

theorem touch_c1 (u o st:List UInt8) (id a b c:Int)  (w:World) :
  Calls Tryz.prog 32 #[.agg #[.int .i64 1,.string ⟨u.toArray⟩,.string ⟨o.toArray⟩,.int .i64 id,.int .i64 a,.int .i64 b,.int .i64 c,.string ⟨st.toArray⟩]] w fun e w' => ∃ v,e=.returned v∧Texts w' v (mrg ([o] ++ [u] ++ []))∧Below w.heap.size w w':=by
 obtain⟨i0,hi,hz0,hz1,hz2⟩:=info_parts Tryz.infoTxt
 have b1:=bl_newZ w (.cells #[.int .i64 1,.string ⟨u.toArray⟩,.string ⟨o.toArray⟩,.int .i64 id,.int .i64 a,.int .i64 b,.int .i64 c,.string ⟨st.toArray⟩] 50)
 have HB:=hD b1
 have FE:=hD (cellsAt_made (w:=w) (cs:=#[.int .i64 1,.string ⟨u.toArray⟩,.string ⟨o.toArray⟩,.int .i64 id,.int .i64 a,.int .i64 b,.int .i64 c,.string ⟨st.toArray⟩]) (vs:=evVals ⟨1,u,o,id,⟨a,b,c,st⟩⟩) rfl 50 rfl)
 have hz:=b1.size
 have hz1w:w.heap.size+1≤(w.alloc (.cells #[.int .i64 1,.string ⟨u.toArray⟩,.string ⟨o.toArray⟩,.int .i64 id,.int .i64 a,.int .i64 b,.int .i64 c,.string ⟨st.toArray⟩] 50)).heap.size:=by simp
 have yy0:=hz1w
 obtain⟨e0,e1,e2,e3,e4,e5,e6,e7⟩:=eightT FE.out
 clear b1
 have B0:Hid (Below (w.heap.size+1) (w.alloc (.cells #[.int .i64 1,.string ⟨u.toArray⟩,.string ⟨o.toArray⟩,.int .i64 id,.int .i64 a,.int .i64 b,.int .i64 c,.string ⟨st.toArray⟩] 50)) (w.alloc (.cells #[.int .i64 1,.string ⟨u.toArray⟩,.string ⟨o.toArray⟩,.int .i64 id,.int .i64 a,.int .i64 b,.int .i64 c,.string ⟨st.toArray⟩] 50))):=hD (Below.refl _ _)
 go_enter Tryz.func32,Tryz.ntmps32
 have O1:Hid (OwnT _ (w.heap.size+1) 9 (.slice none 0 0) []):=hD ((World.ownsRow_nil (w.alloc (.cells #[.int .i64 1,.string ⟨u.toArray⟩,.string ⟨o.toArray⟩,.int .i64 id,.int .i64 a,.int .i64 b,.int .i64 c,.string ⟨st.toArray⟩] 50)) _ _ _).alloc (.cells #[.string ⟨o.toArray⟩] 9))
 have M1:=hD (B0.out.alloc yy0 (.cells #[.string ⟨o.toArray⟩] 9))
 go_wp2_with (at_builtin; go_must (refine wpList_append_texts rfl _ _ 37 rfl (w.heap.size+1) 9 i0 _ 16 Tryz.underlying37 hi hz0 hz1 hz2 rfl _ [] rfl (by exact O1.out) _ 1 1 [o] rfl rfl (fun e => nomatch e) ?c1 (by simp only [List.length_cons,List.length_nil]; omega) (by decide) (Nat.le_trans yy0 (bl_newZ _ _).size) ?_))
 case c1 => exact new_cellN (by simp)
 intro v1 W1 ho1 hb1
 have R1:=hD ho1
 have B1:=hD (M1.out.trans hb1)
 have yy1:=Nat.le_trans hz1w B1.out.size
 clear ho1 hb1 O1 M1 e0 e1 e2 e3 e4 e5 e6 e7
 obtain⟨e0,e1,e2,e3,e4,e5,e6,e7⟩:=eightT (cells_up FE.out B1.out (by simp))
 have O2:=hD ((R1.out).alloc (.cells #[.string ⟨u.toArray⟩] 9))
 have M2:=hD (B1.out.alloc yy1 (.cells #[.string ⟨u.toArray⟩] 9))
 go_wp2_with (at_builtin; go_must (refine wpList_append_texts rfl _ _ 37 rfl (w.heap.size+1) 9 i0 _ 16 Tryz.underlying37 hi hz0 hz1 hz2 rfl _ [o] rfl (by exact O2.out) _ 1 1 [u] rfl rfl (fun e => nomatch e) ?c1 (by simp only [List.length_cons,List.length_nil]; omega) (by decide) (Nat.le_trans yy1 (bl_newZ _ _).size) ?_))
 case c1 => exact new_cellN (by simp)
 intro v2 W2 ho2 hb2
 have R2:=hD ho2
 have B2:=hD (M2.out.trans hb2)
 have yy2:=Nat.le_trans hz1w B2.out.size
 clear ho2 hb2 O2 M2 e0 e1 e2 e3 e4 e5 e6 e7
 obtain⟨e0,e1,e2,e3,e4,e5,e6,e7⟩:=eightT (cells_up FE.out B2.out (by simp))
 go_wp2_with fail
 refine (merge_any R2.out.texts (texts_nil _) (by simp) (by simp)).mono ?_
 rintro e w9 ⟨v9,rfl,h9,b9⟩
 have T9:=hD h9
 have N9:=hD (below2Z (HB.out.trans (B2.out.mono (Nat.le_succ _))) b9)
 clear h9 b9 e0 e1 e2 e3 e4 e5 e6 e7
 go_wp2_with fail
 go_ret
 exact⟨_,rfl,T9.out,N9.out⟩

theorem touch_c2 (u o st:List UInt8) (id a b c:Int)  (w:World) :
  Calls Tryz.prog 32 #[.agg #[.int .i64 2,.string ⟨u.toArray⟩,.string ⟨o.toArray⟩,.int .i64 id,.int .i64 a,.int .i64 b,.int .i64 c,.string ⟨st.toArray⟩]] w fun e w' => ∃ v,e=.returned v∧Texts w' v (mrg ([o] ++ [u] ++ []))∧Below w.heap.size w w':=by
 obtain⟨i0,hi,hz0,hz1,hz2⟩:=info_parts Tryz.infoTxt
 have b1:=bl_newZ w (.cells #[.int .i64 2,.string ⟨u.toArray⟩,.string ⟨o.toArray⟩,.int .i64 id,.int .i64 a,.int .i64 b,.int .i64 c,.string ⟨st.toArray⟩] 50)
 have HB:=hD b1
 have FE:=hD (cellsAt_made (w:=w) (cs:=#[.int .i64 2,.string ⟨u.toArray⟩,.string ⟨o.toArray⟩,.int .i64 id,.int .i64 a,.int .i64 b,.int .i64 c,.string ⟨st.toArray⟩]) (vs:=evVals ⟨2,u,o,id,⟨a,b,c,st⟩⟩) rfl 50 rfl)
 have hz:=b1.size
 have hz1w:w.heap.size+1≤(w.alloc (.cells #[.int .i64 2,.string ⟨u.toArray⟩,.string ⟨o.toArray⟩,.int .i64 id,.int .i64 a,.int .i64 b,.int .i64 c,.string ⟨st.toArray⟩] 50)).heap.size:=by simp
 have yy0:=hz1w
 obtain⟨e0,e1,e2,e3,e4,e5,e6,e7⟩:=eightT FE.out
 clear b1
 have B0:Hid (Below (w.heap.size+1) (w.alloc (.cells #[.int .i64 2,.string ⟨u.toArray⟩,.string ⟨o.toArray⟩,.int .i64 id,.int .i64 a,.int .i64 b,.int .i64 c,.string ⟨st.toArray⟩] 50)) (w.alloc (.cells #[.int .i64 2,.string ⟨u.toArray⟩,.string ⟨o.toArray⟩,.int .i64 id,.int .i64 a,.int .i64 b,.int .i64 c,.string ⟨st.toArray⟩] 50))):=hD (Below.refl _ _)
 go_enter Tryz.func32,Tryz.ntmps32
 have O1:Hid (OwnT _ (w.heap.size+1) 9 (.slice none 0 0) []):=hD ((World.ownsRow_nil (w.alloc (.cells #[.int .i64 2,.string ⟨u.toArray⟩,.string ⟨o.toArray⟩,.int .i64 id,.int .i64 a,.int .i64 b,.int .i64 c,.string ⟨st.toArray⟩] 50)) _ _ _).alloc (.cells #[.string ⟨o.toArray⟩] 9))
 have M1:=hD (B0.out.alloc yy0 (.cells #[.string ⟨o.toArray⟩] 9))
 go_wp2_with (at_builtin; go_must (refine wpList_append_texts rfl _ _ 37 rfl (w.heap.size+1) 9 i0 _ 16 Tryz.underlying37 hi hz0 hz1 hz2 rfl _ [] rfl (by exact O1.out) _ 1 1 [o] rfl rfl (fun e => nomatch e) ?c1 (by simp only [List.length_cons,List.length_nil]; omega) (by decide) (Nat.le_trans yy0 (bl_newZ _ _).size) ?_))
 case c1 => exact new_cellN (by simp)
 intro v1 W1 ho1 hb1
 have R1:=hD ho1
 have B1:=hD (M1.out.trans hb1)
 have yy1:=Nat.le_trans hz1w B1.out.size
 clear ho1 hb1 O1 M1 e0 e1 e2 e3 e4 e5 e6 e7
 obtain⟨e0,e1,e2,e3,e4,e5,e6,e7⟩:=eightT (cells_up FE.out B1.out (by simp))
 have O2:=hD ((R1.out).alloc (.cells #[.string ⟨u.toArray⟩] 9))
 have M2:=hD (B1.out.alloc yy1 (.cells #[.string ⟨u.toArray⟩] 9))
 go_wp2_with (at_builtin; go_must (refine wpList_append_texts rfl _ _ 37 rfl (w.heap.size+1) 9 i0 _ 16 Tryz.underlying37 hi hz0 hz1 hz2 rfl _ [o] rfl (by exact O2.out) _ 1 1 [u] rfl rfl (fun e => nomatch e) ?c1 (by simp only [List.length_cons,List.length_nil]; omega) (by decide) (Nat.le_trans yy1 (bl_newZ _ _).size) ?_))
 case c1 => exact new_cellN (by simp)
 intro v2 W2 ho2 hb2
 have R2:=hD ho2
 have B2:=hD (M2.out.trans hb2)
 have yy2:=Nat.le_trans hz1w B2.out.size
 clear ho2 hb2 O2 M2 e0 e1 e2 e3 e4 e5 e6 e7
 obtain⟨e0,e1,e2,e3,e4,e5,e6,e7⟩:=eightT (cells_up FE.out B2.out (by simp))
 go_wp2_with fail
 refine (merge_any R2.out.texts (texts_nil _) (by simp) (by simp)).mono ?_
 rintro e w9 ⟨v9,rfl,h9,b9⟩
 have T9:=hD h9
 have N9:=hD (below2Z (HB.out.trans (B2.out.mono (Nat.le_succ _))) b9)
 clear h9 b9 e0 e1 e2 e3 e4 e5 e6 e7
 go_wp2_with fail
 go_ret
 exact⟨_,rfl,T9.out,N9.out⟩

theorem touch_c3 (u o st:List UInt8) (id a b c:Int)  (w:World) :
  Calls Tryz.prog 32 #[.agg #[.int .i64 3,.string ⟨u.toArray⟩,.string ⟨o.toArray⟩,.int .i64 id,.int .i64 a,.int .i64 b,.int .i64 c,.string ⟨st.toArray⟩]] w fun e w' => ∃ v,e=.returned v∧Texts w' v (mrg ([o] ++ [u] ++ []))∧Below w.heap.size w w':=by
 obtain⟨i0,hi,hz0,hz1,hz2⟩:=info_parts Tryz.infoTxt
 have b1:=bl_newZ w (.cells #[.int .i64 3,.string ⟨u.toArray⟩,.string ⟨o.toArray⟩,.int .i64 id,.int .i64 a,.int .i64 b,.int .i64 c,.string ⟨st.toArray⟩] 50)
 have HB:=hD b1
 have FE:=hD (cellsAt_made (w:=w) (cs:=#[.int .i64 3,.string ⟨u.toArray⟩,.string ⟨o.toArray⟩,.int .i64 id,.int .i64 a,.int .i64 b,.int .i64 c,.string ⟨st.toArray⟩]) (vs:=evVals ⟨3,u,o,id,⟨a,b,c,st⟩⟩) rfl 50 rfl)
 have hz:=b1.size
 have hz1w:w.heap.size+1≤(w.alloc (.cells #[.int .i64 3,.string ⟨u.toArray⟩,.string ⟨o.toArray⟩,.int .i64 id,.int .i64 a,.int .i64 b,.int .i64 c,.string ⟨st.toArray⟩] 50)).heap.size:=by simp
 have yy0:=hz1w
 obtain⟨e0,e1,e2,e3,e4,e5,e6,e7⟩:=eightT FE.out
 clear b1
 have B0:Hid (Below (w.heap.size+1) (w.alloc (.cells #[.int .i64 3,.string ⟨u.toArray⟩,.string ⟨o.toArray⟩,.int .i64 id,.int .i64 a,.int .i64 b,.int .i64 c,.string ⟨st.toArray⟩] 50)) (w.alloc (.cells #[.int .i64 3,.string ⟨u.toArray⟩,.string ⟨o.toArray⟩,.int .i64 id,.int .i64 a,.int .i64 b,.int .i64 c,.string ⟨st.toArray⟩] 50))):=hD (Below.refl _ _)
 go_enter Tryz.func32,Tryz.ntmps32
 have O1:Hid (OwnT _ (w.heap.size+1) 9 (.slice none 0 0) []):=hD ((World.ownsRow_nil (w.alloc (.cells #[.int .i64 3,.string ⟨u.toArray⟩,.string ⟨o.toArray⟩,.int .i64 id,.int .i64 a,.int .i64 b,.int .i64 c,.string ⟨st.toArray⟩] 50)) _ _ _).alloc (.cells #[.string ⟨o.toArray⟩] 9))
 have M1:=hD (B0.out.alloc yy0 (.cells #[.string ⟨o.toArray⟩] 9))
 go_wp2_with (at_builtin; go_must (refine wpList_append_texts rfl _ _ 37 rfl (w.heap.size+1) 9 i0 _ 16 Tryz.underlying37 hi hz0 hz1 hz2 rfl _ [] rfl (by exact O1.out) _ 1 1 [o] rfl rfl (fun e => nomatch e) ?c1 (by simp only [List.length_cons,List.length_nil]; omega) (by decide) (Nat.le_trans yy0 (bl_newZ _ _).size) ?_))
 case c1 => exact new_cellN (by simp)
 intro v1 W1 ho1 hb1
 have R1:=hD ho1
 have B1:=hD (M1.out.trans hb1)
 have yy1:=Nat.le_trans hz1w B1.out.size
 clear ho1 hb1 O1 M1 e0 e1 e2 e3 e4 e5 e6 e7
 obtain⟨e0,e1,e2,e3,e4,e5,e6,e7⟩:=eightT (cells_up FE.out B1.out (by simp))
 have O2:=hD ((R1.out).alloc (.cells #[.string ⟨u.toArray⟩] 9))
 have M2:=hD (B1.out.alloc yy1 (.cells #[.string ⟨u.toArray⟩] 9))
 go_wp2_with (at_builtin; go_must (refine wpList_append_texts rfl _ _ 37 rfl (w.heap.size+1) 9 i0 _ 16 Tryz.underlying37 hi hz0 hz1 hz2 rfl _ [o] rfl (by exact O2.out) _ 1 1 [u] rfl rfl (fun e => nomatch e) ?c1 (by simp only [List.length_cons,List.length_nil]; omega) (by decide) (Nat.le_trans yy1 (bl_newZ _ _).size) ?_))
 case c1 => exact new_cellN (by simp)
 intro v2 W2 ho2 hb2
 have R2:=hD ho2
 have B2:=hD (M2.out.trans hb2)
 have yy2:=Nat.le_trans hz1w B2.out.size
 clear ho2 hb2 O2 M2 e0 e1 e2 e3 e4 e5 e6 e7
 obtain⟨e0,e1,e2,e3,e4,e5,e6,e7⟩:=eightT (cells_up FE.out B2.out (by simp))
 go_wp2_with fail
 refine (merge_any R2.out.texts (texts_nil _) (by simp) (by simp)).mono ?_
 rintro e w9 ⟨v9,rfl,h9,b9⟩
 have T9:=hD h9
 have N9:=hD (below2Z (HB.out.trans (B2.out.mono (Nat.le_succ _))) b9)
 clear h9 b9 e0 e1 e2 e3 e4 e5 e6 e7
 go_wp2_with fail
 go_ret
 exact⟨_,rfl,T9.out,N9.out⟩

theorem touch_c4 (u o st:List UInt8) (id a b c:Int)  (w:World) :
  Calls Tryz.prog 32 #[.agg #[.int .i64 4,.string ⟨u.toArray⟩,.string ⟨o.toArray⟩,.int .i64 id,.int .i64 a,.int .i64 b,.int .i64 c,.string ⟨st.toArray⟩]] w fun e w' => ∃ v,e=.returned v∧Texts w' v (mrg ([o] ++ [u] ++ []))∧Below w.heap.size w w':=by
 obtain⟨i0,hi,hz0,hz1,hz2⟩:=info_parts Tryz.infoTxt
 have b1:=bl_newZ w (.cells #[.int .i64 4,.string ⟨u.toArray⟩,.string ⟨o.toArray⟩,.int .i64 id,.int .i64 a,.int .i64 b,.int .i64 c,.string ⟨st.toArray⟩] 50)
 have HB:=hD b1
 have FE:=hD (cellsAt_made (w:=w) (cs:=#[.int .i64 4,.string ⟨u.toArray⟩,.string ⟨o.toArray⟩,.int .i64 id,.int .i64 a,.int .i64 b,.int .i64 c,.string ⟨st.toArray⟩]) (vs:=evVals ⟨4,u,o,id,⟨a,b,c,st⟩⟩) rfl 50 rfl)
 have hz:=b1.size
 have hz1w:w.heap.size+1≤(w.alloc (.cells #[.int .i64 4,.string ⟨u.toArray⟩,.string ⟨o.toArray⟩,.int .i64 id,.int .i64 a,.int .i64 b,.int .i64 c,.string ⟨st.toArray⟩] 50)).heap.size:=by simp
 have yy0:=hz1w
 obtain⟨e0,e1,e2,e3,e4,e5,e6,e7⟩:=eightT FE.out
 clear b1
 have B0:Hid (Below (w.heap.size+1) (w.alloc (.cells #[.int .i64 4,.string ⟨u.toArray⟩,.string ⟨o.toArray⟩,.int .i64 id,.int .i64 a,.int .i64 b,.int .i64 c,.string ⟨st.toArray⟩] 50)) (w.alloc (.cells #[.int .i64 4,.string ⟨u.toArray⟩,.string ⟨o.toArray⟩,.int .i64 id,.int .i64 a,.int .i64 b,.int .i64 c,.string ⟨st.toArray⟩] 50))):=hD (Below.refl _ _)
 go_enter Tryz.func32,Tryz.ntmps32
 have O1:Hid (OwnT _ (w.heap.size+1) 9 (.slice none 0 0) []):=hD ((World.ownsRow_nil (w.alloc (.cells #[.int .i64 4,.string ⟨u.toArray⟩,.string ⟨o.toArray⟩,.int .i64 id,.int .i64 a,.int .i64 b,.int .i64 c,.string ⟨st.toArray⟩] 50)) _ _ _).alloc (.cells #[.string ⟨o.toArray⟩] 9))
 have M1:=hD (B0.out.alloc yy0 (.cells #[.string ⟨o.toArray⟩] 9))
 go_wp2_with (at_builtin; go_must (refine wpList_append_texts rfl _ _ 37 rfl (w.heap.size+1) 9 i0 _ 16 Tryz.underlying37 hi hz0 hz1 hz2 rfl _ [] rfl (by exact O1.out) _ 1 1 [o] rfl rfl (fun e => nomatch e) ?c1 (by simp only [List.length_cons,List.length_nil]; omega) (by decide) (Nat.le_trans yy0 (bl_newZ _ _).size) ?_))
 case c1 => exact new_cellN (by simp)
 intro v1 W1 ho1 hb1
 have R1:=hD ho1
 have B1:=hD (M1.out.trans hb1)
 have yy1:=Nat.le_trans hz1w B1.out.size
 clear ho1 hb1 O1 M1 e0 e1 e2 e3 e4 e5 e6 e7
 obtain⟨e0,e1,e2,e3,e4,e5,e6,e7⟩:=eightT (cells_up FE.out B1.out (by simp))
 have O2:=hD ((R1.out).alloc (.cells #[.string ⟨u.toArray⟩] 9))
 have M2:=hD (B1.out.alloc yy1 (.cells #[.string ⟨u.toArray⟩] 9))
 go_wp2_with (at_builtin; go_must (refine wpList_append_texts rfl _ _ 37 rfl (w.heap.size+1) 9 i0 _ 16 Tryz.underlying37 hi hz0 hz1 hz2 rfl _ [o] rfl (by exact O2.out) _ 1 1 [u] rfl rfl (fun e => nomatch e) ?c1 (by simp only [List.length_cons,List.length_nil]; omega) (by decide) (Nat.le_trans yy1 (bl_newZ _ _).size) ?_))
 case c1 => exact new_cellN (by simp)
 intro v2 W2 ho2 hb2
 have R2:=hD ho2
 have B2:=hD (M2.out.trans hb2)
 have yy2:=Nat.le_trans hz1w B2.out.size
 clear ho2 hb2 O2 M2 e0 e1 e2 e3 e4 e5 e6 e7
 obtain⟨e0,e1,e2,e3,e4,e5,e6,e7⟩:=eightT (cells_up FE.out B2.out (by simp))
 go_wp2_with fail
 refine (merge_any R2.out.texts (texts_nil _) (by simp) (by simp)).mono ?_
 rintro e w9 ⟨v9,rfl,h9,b9⟩
 have T9:=hD h9
 have N9:=hD (below2Z (HB.out.trans (B2.out.mono (Nat.le_succ _))) b9)
 clear h9 b9 e0 e1 e2 e3 e4 e5 e6 e7
 go_wp2_with fail
 go_ret
 exact⟨_,rfl,T9.out,N9.out⟩

theorem touch_c5 (u o st:List UInt8) (id a b c:Int)  (w:World) :
  Calls Tryz.prog 32 #[.agg #[.int .i64 5,.string ⟨u.toArray⟩,.string ⟨o.toArray⟩,.int .i64 id,.int .i64 a,.int .i64 b,.int .i64 c,.string ⟨st.toArray⟩]] w fun e w' => ∃ v,e=.returned v∧Texts w' v (mrg ([o] ++ [u] ++ []))∧Below w.heap.size w w':=by
 obtain⟨i0,hi,hz0,hz1,hz2⟩:=info_parts Tryz.infoTxt
 have b1:=bl_newZ w (.cells #[.int .i64 5,.string ⟨u.toArray⟩,.string ⟨o.toArray⟩,.int .i64 id,.int .i64 a,.int .i64 b,.int .i64 c,.string ⟨st.toArray⟩] 50)
 have HB:=hD b1
 have FE:=hD (cellsAt_made (w:=w) (cs:=#[.int .i64 5,.string ⟨u.toArray⟩,.string ⟨o.toArray⟩,.int .i64 id,.int .i64 a,.int .i64 b,.int .i64 c,.string ⟨st.toArray⟩]) (vs:=evVals ⟨5,u,o,id,⟨a,b,c,st⟩⟩) rfl 50 rfl)
 have hz:=b1.size
 have hz1w:w.heap.size+1≤(w.alloc (.cells #[.int .i64 5,.string ⟨u.toArray⟩,.string ⟨o.toArray⟩,.int .i64 id,.int .i64 a,.int .i64 b,.int .i64 c,.string ⟨st.toArray⟩] 50)).heap.size:=by simp
 have yy0:=hz1w
 obtain⟨e0,e1,e2,e3,e4,e5,e6,e7⟩:=eightT FE.out
 clear b1
 have B0:Hid (Below (w.heap.size+1) (w.alloc (.cells #[.int .i64 5,.string ⟨u.toArray⟩,.string ⟨o.toArray⟩,.int .i64 id,.int .i64 a,.int .i64 b,.int .i64 c,.string ⟨st.toArray⟩] 50)) (w.alloc (.cells #[.int .i64 5,.string ⟨u.toArray⟩,.string ⟨o.toArray⟩,.int .i64 id,.int .i64 a,.int .i64 b,.int .i64 c,.string ⟨st.toArray⟩] 50))):=hD (Below.refl _ _)
 go_enter Tryz.func32,Tryz.ntmps32
 have O1:Hid (OwnT _ (w.heap.size+1) 9 (.slice none 0 0) []):=hD ((World.ownsRow_nil (w.alloc (.cells #[.int .i64 5,.string ⟨u.toArray⟩,.string ⟨o.toArray⟩,.int .i64 id,.int .i64 a,.int .i64 b,.int .i64 c,.string ⟨st.toArray⟩] 50)) _ _ _).alloc (.cells #[.string ⟨o.toArray⟩] 9))
 have M1:=hD (B0.out.alloc yy0 (.cells #[.string ⟨o.toArray⟩] 9))
 go_wp2_with (at_builtin; go_must (refine wpList_append_texts rfl _ _ 37 rfl (w.heap.size+1) 9 i0 _ 16 Tryz.underlying37 hi hz0 hz1 hz2 rfl _ [] rfl (by exact O1.out) _ 1 1 [o] rfl rfl (fun e => nomatch e) ?c1 (by simp only [List.length_cons,List.length_nil]; omega) (by decide) (Nat.le_trans yy0 (bl_newZ _ _).size) ?_))
 case c1 => exact new_cellN (by simp)
 intro v1 W1 ho1 hb1
 have R1:=hD ho1
 have B1:=hD (M1.out.trans hb1)
 have yy1:=Nat.le_trans hz1w B1.out.size
 clear ho1 hb1 O1 M1 e0 e1 e2 e3 e4 e5 e6 e7
 obtain⟨e0,e1,e2,e3,e4,e5,e6,e7⟩:=eightT (cells_up FE.out B1.out (by simp))
 have O2:=hD ((R1.out).alloc (.cells #[.string ⟨u.toArray⟩] 9))
 have M2:=hD (B1.out.alloc yy1 (.cells #[.string ⟨u.toArray⟩] 9))
 go_wp2_with (at_builtin; go_must (refine wpList_append_texts rfl _ _ 37 rfl (w.heap.size+1) 9 i0 _ 16 Tryz.underlying37 hi hz0 hz1 hz2 rfl _ [o] rfl (by exact O2.out) _ 1 1 [u] rfl rfl (fun e => nomatch e) ?c1 (by simp only [List.length_cons,List.length_nil]; omega) (by decide) (Nat.le_trans yy1 (bl_newZ _ _).size) ?_))
 case c1 => exact new_cellN (by simp)
 intro v2 W2 ho2 hb2
 have R2:=hD ho2
 have B2:=hD (M2.out.trans hb2)
 have yy2:=Nat.le_trans hz1w B2.out.size
 clear ho2 hb2 O2 M2 e0 e1 e2 e3 e4 e5 e6 e7
 obtain⟨e0,e1,e2,e3,e4,e5,e6,e7⟩:=eightT (cells_up FE.out B2.out (by simp))
 go_wp2_with fail
 refine (merge_any R2.out.texts (texts_nil _) (by simp) (by simp)).mono ?_
 rintro e w9 ⟨v9,rfl,h9,b9⟩
 have T9:=hD h9
 have N9:=hD (below2Z (HB.out.trans (B2.out.mono (Nat.le_succ _))) b9)
 clear h9 b9 e0 e1 e2 e3 e4 e5 e6 e7
 go_wp2_with fail
 go_ret
 exact⟨_,rfl,T9.out,N9.out⟩

theorem touch_c6 (u o st:List UInt8) (id a b c:Int)  (w:World) :
  Calls Tryz.prog 32 #[.agg #[.int .i64 6,.string ⟨u.toArray⟩,.string ⟨o.toArray⟩,.int .i64 id,.int .i64 a,.int .i64 b,.int .i64 c,.string ⟨st.toArray⟩]] w fun e w' => ∃ v,e=.returned v∧Texts w' v (mrg ([o] ++ [u] ++ []))∧Below w.heap.size w w':=by
 obtain⟨i0,hi,hz0,hz1,hz2⟩:=info_parts Tryz.infoTxt
 have b1:=bl_newZ w (.cells #[.int .i64 6,.string ⟨u.toArray⟩,.string ⟨o.toArray⟩,.int .i64 id,.int .i64 a,.int .i64 b,.int .i64 c,.string ⟨st.toArray⟩] 50)
 have HB:=hD b1
 have FE:=hD (cellsAt_made (w:=w) (cs:=#[.int .i64 6,.string ⟨u.toArray⟩,.string ⟨o.toArray⟩,.int .i64 id,.int .i64 a,.int .i64 b,.int .i64 c,.string ⟨st.toArray⟩]) (vs:=evVals ⟨6,u,o,id,⟨a,b,c,st⟩⟩) rfl 50 rfl)
 have hz:=b1.size
 have hz1w:w.heap.size+1≤(w.alloc (.cells #[.int .i64 6,.string ⟨u.toArray⟩,.string ⟨o.toArray⟩,.int .i64 id,.int .i64 a,.int .i64 b,.int .i64 c,.string ⟨st.toArray⟩] 50)).heap.size:=by simp
 have yy0:=hz1w
 obtain⟨e0,e1,e2,e3,e4,e5,e6,e7⟩:=eightT FE.out
 clear b1
 have B0:Hid (Below (w.heap.size+1) (w.alloc (.cells #[.int .i64 6,.string ⟨u.toArray⟩,.string ⟨o.toArray⟩,.int .i64 id,.int .i64 a,.int .i64 b,.int .i64 c,.string ⟨st.toArray⟩] 50)) (w.alloc (.cells #[.int .i64 6,.string ⟨u.toArray⟩,.string ⟨o.toArray⟩,.int .i64 id,.int .i64 a,.int .i64 b,.int .i64 c,.string ⟨st.toArray⟩] 50))):=hD (Below.refl _ _)
 go_enter Tryz.func32,Tryz.ntmps32
 have O1:Hid (OwnT _ (w.heap.size+1) 9 (.slice none 0 0) []):=hD ((World.ownsRow_nil (w.alloc (.cells #[.int .i64 6,.string ⟨u.toArray⟩,.string ⟨o.toArray⟩,.int .i64 id,.int .i64 a,.int .i64 b,.int .i64 c,.string ⟨st.toArray⟩] 50)) _ _ _).alloc (.cells #[.string ⟨o.toArray⟩] 9))
 have M1:=hD (B0.out.alloc yy0 (.cells #[.string ⟨o.toArray⟩] 9))
 go_wp2_with (at_builtin; go_must (refine wpList_append_texts rfl _ _ 37 rfl (w.heap.size+1) 9 i0 _ 16 Tryz.underlying37 hi hz0 hz1 hz2 rfl _ [] rfl (by exact O1.out) _ 1 1 [o] rfl rfl (fun e => nomatch e) ?c1 (by simp only [List.length_cons,List.length_nil]; omega) (by decide) (Nat.le_trans yy0 (bl_newZ _ _).size) ?_))
 case c1 => exact new_cellN (by simp)
 intro v1 W1 ho1 hb1
 have R1:=hD ho1
 have B1:=hD (M1.out.trans hb1)
 have yy1:=Nat.le_trans hz1w B1.out.size
 clear ho1 hb1 O1 M1 e0 e1 e2 e3 e4 e5 e6 e7
 obtain⟨e0,e1,e2,e3,e4,e5,e6,e7⟩:=eightT (cells_up FE.out B1.out (by simp))
 have O2:=hD ((R1.out).alloc (.cells #[.string ⟨u.toArray⟩] 9))
 have M2:=hD (B1.out.alloc yy1 (.cells #[.string ⟨u.toArray⟩] 9))
 go_wp2_with (at_builtin; go_must (refine wpList_append_texts rfl _ _ 37 rfl (w.heap.size+1) 9 i0 _ 16 Tryz.underlying37 hi hz0 hz1 hz2 rfl _ [o] rfl (by exact O2.out) _ 1 1 [u] rfl rfl (fun e => nomatch e) ?c1 (by simp only [List.length_cons,List.length_nil]; omega) (by decide) (Nat.le_trans yy1 (bl_newZ _ _).size) ?_))
 case c1 => exact new_cellN (by simp)
 intro v2 W2 ho2 hb2
 have R2:=hD ho2
 have B2:=hD (M2.out.trans hb2)
 have yy2:=Nat.le_trans hz1w B2.out.size
 clear ho2 hb2 O2 M2 e0 e1 e2 e3 e4 e5 e6 e7
 obtain⟨e0,e1,e2,e3,e4,e5,e6,e7⟩:=eightT (cells_up FE.out B2.out (by simp))
 go_wp2_with fail
 refine (merge_any R2.out.texts (texts_nil _) (by simp) (by simp)).mono ?_
 rintro e w9 ⟨v9,rfl,h9,b9⟩
 have T9:=hD h9
 have N9:=hD (below2Z (HB.out.trans (B2.out.mono (Nat.le_succ _))) b9)
 clear h9 b9 e0 e1 e2 e3 e4 e5 e6 e7
 go_wp2_with fail
 go_ret
 exact⟨_,rfl,T9.out,N9.out⟩

theorem touch_c7 (u o st:List UInt8) (id a b c:Int)  (w:World) :
  Calls Tryz.prog 32 #[.agg #[.int .i64 7,.string ⟨u.toArray⟩,.string ⟨o.toArray⟩,.int .i64 id,.int .i64 a,.int .i64 b,.int .i64 c,.string ⟨st.toArray⟩]] w fun e w' => ∃ v,e=.returned v∧Texts w' v (mrg ([u] ++ []))∧Below w.heap.size w w':=by
 obtain⟨i0,hi,hz0,hz1,hz2⟩:=info_parts Tryz.infoTxt
 have b1:=bl_newZ w (.cells #[.int .i64 7,.string ⟨u.toArray⟩,.string ⟨o.toArray⟩,.int .i64 id,.int .i64 a,.int .i64 b,.int .i64 c,.string ⟨st.toArray⟩] 50)
 have HB:=hD b1
 have FE:=hD (cellsAt_made (w:=w) (cs:=#[.int .i64 7,.string ⟨u.toArray⟩,.string ⟨o.toArray⟩,.int .i64 id,.int .i64 a,.int .i64 b,.int .i64 c,.string ⟨st.toArray⟩]) (vs:=evVals ⟨7,u,o,id,⟨a,b,c,st⟩⟩) rfl 50 rfl)
 have hz:=b1.size
 have hz1w:w.heap.size+1≤(w.alloc (.cells #[.int .i64 7,.string ⟨u.toArray⟩,.string ⟨o.toArray⟩,.int .i64 id,.int .i64 a,.int .i64 b,.int .i64 c,.string ⟨st.toArray⟩] 50)).heap.size:=by simp
 have yy0:=hz1w
 obtain⟨e0,e1,e2,e3,e4,e5,e6,e7⟩:=eightT FE.out
 clear b1
 have B0:Hid (Below (w.heap.size+1) (w.alloc (.cells #[.int .i64 7,.string ⟨u.toArray⟩,.string ⟨o.toArray⟩,.int .i64 id,.int .i64 a,.int .i64 b,.int .i64 c,.string ⟨st.toArray⟩] 50)) (w.alloc (.cells #[.int .i64 7,.string ⟨u.toArray⟩,.string ⟨o.toArray⟩,.int .i64 id,.int .i64 a,.int .i64 b,.int .i64 c,.string ⟨st.toArray⟩] 50))):=hD (Below.refl _ _)
 go_enter Tryz.func32,Tryz.ntmps32
 have O1:Hid (OwnT _ (w.heap.size+1) 9 (.slice none 0 0) []):=hD ((World.ownsRow_nil (w.alloc (.cells #[.int .i64 7,.string ⟨u.toArray⟩,.string ⟨o.toArray⟩,.int .i64 id,.int .i64 a,.int .i64 b,.int .i64 c,.string ⟨st.toArray⟩] 50)) _ _ _).alloc (.cells #[.string ⟨u.toArray⟩] 9))
 have M1:=hD (B0.out.alloc yy0 (.cells #[.string ⟨u.toArray⟩] 9))
 go_wp2_with (at_builtin; go_must (refine wpList_append_texts rfl _ _ 37 rfl (w.heap.size+1) 9 i0 _ 16 Tryz.underlying37 hi hz0 hz1 hz2 rfl _ [] rfl (by exact O1.out) _ 1 1 [u] rfl rfl (fun e => nomatch e) ?c1 (by simp only [List.length_cons,List.length_nil]; omega) (by decide) (Nat.le_trans yy0 (bl_newZ _ _).size) ?_))
 case c1 => exact new_cellN (by simp)
 intro v1 W1 ho1 hb1
 have R1:=hD ho1
 have B1:=hD (M1.out.trans hb1)
 have yy1:=Nat.le_trans hz1w B1.out.size
 clear ho1 hb1 O1 M1 e0 e1 e2 e3 e4 e5 e6 e7
 obtain⟨e0,e1,e2,e3,e4,e5,e6,e7⟩:=eightT (cells_up FE.out B1.out (by simp))
 go_wp2_with fail
 refine (merge_any R1.out.texts (texts_nil _) (by simp) (by simp)).mono ?_
 rintro e w9 ⟨v9,rfl,h9,b9⟩
 have T9:=hD h9
 have N9:=hD (below2Z (HB.out.trans (B1.out.mono (Nat.le_succ _))) b9)
 clear h9 b9 e0 e1 e2 e3 e4 e5 e6 e7
 go_wp2_with fail
 go_ret
 exact⟨_,rfl,T9.out,N9.out⟩

theorem touch_c8 (u o st:List UInt8) (id a b c:Int)  (w:World) :
  Calls Tryz.prog 32 #[.agg #[.int .i64 8,.string ⟨u.toArray⟩,.string ⟨o.toArray⟩,.int .i64 id,.int .i64 a,.int .i64 b,.int .i64 c,.string ⟨st.toArray⟩]] w fun e w' => ∃ v,e=.returned v∧Texts w' v (mrg ([u] ++ []))∧Below w.heap.size w w':=by
 obtain⟨i0,hi,hz0,hz1,hz2⟩:=info_parts Tryz.infoTxt
 have b1:=bl_newZ w (.cells #[.int .i64 8,.string ⟨u.toArray⟩,.string ⟨o.toArray⟩,.int .i64 id,.int .i64 a,.int .i64 b,.int .i64 c,.string ⟨st.toArray⟩] 50)
 have HB:=hD b1
 have FE:=hD (cellsAt_made (w:=w) (cs:=#[.int .i64 8,.string ⟨u.toArray⟩,.string ⟨o.toArray⟩,.int .i64 id,.int .i64 a,.int .i64 b,.int .i64 c,.string ⟨st.toArray⟩]) (vs:=evVals ⟨8,u,o,id,⟨a,b,c,st⟩⟩) rfl 50 rfl)
 have hz:=b1.size
 have hz1w:w.heap.size+1≤(w.alloc (.cells #[.int .i64 8,.string ⟨u.toArray⟩,.string ⟨o.toArray⟩,.int .i64 id,.int .i64 a,.int .i64 b,.int .i64 c,.string ⟨st.toArray⟩] 50)).heap.size:=by simp
 have yy0:=hz1w
 obtain⟨e0,e1,e2,e3,e4,e5,e6,e7⟩:=eightT FE.out
 clear b1
 have B0:Hid (Below (w.heap.size+1) (w.alloc (.cells #[.int .i64 8,.string ⟨u.toArray⟩,.string ⟨o.toArray⟩,.int .i64 id,.int .i64 a,.int .i64 b,.int .i64 c,.string ⟨st.toArray⟩] 50)) (w.alloc (.cells #[.int .i64 8,.string ⟨u.toArray⟩,.string ⟨o.toArray⟩,.int .i64 id,.int .i64 a,.int .i64 b,.int .i64 c,.string ⟨st.toArray⟩] 50))):=hD (Below.refl _ _)
 go_enter Tryz.func32,Tryz.ntmps32
 have O1:Hid (OwnT _ (w.heap.size+1) 9 (.slice none 0 0) []):=hD ((World.ownsRow_nil (w.alloc (.cells #[.int .i64 8,.string ⟨u.toArray⟩,.string ⟨o.toArray⟩,.int .i64 id,.int .i64 a,.int .i64 b,.int .i64 c,.string ⟨st.toArray⟩] 50)) _ _ _).alloc (.cells #[.string ⟨u.toArray⟩] 9))
 have M1:=hD (B0.out.alloc yy0 (.cells #[.string ⟨u.toArray⟩] 9))
 go_wp2_with (at_builtin; go_must (refine wpList_append_texts rfl _ _ 37 rfl (w.heap.size+1) 9 i0 _ 16 Tryz.underlying37 hi hz0 hz1 hz2 rfl _ [] rfl (by exact O1.out) _ 1 1 [u] rfl rfl (fun e => nomatch e) ?c1 (by simp only [List.length_cons,List.length_nil]; omega) (by decide) (Nat.le_trans yy0 (bl_newZ _ _).size) ?_))
 case c1 => exact new_cellN (by simp)
 intro v1 W1 ho1 hb1
 have R1:=hD ho1
 have B1:=hD (M1.out.trans hb1)
 have yy1:=Nat.le_trans hz1w B1.out.size
 clear ho1 hb1 O1 M1 e0 e1 e2 e3 e4 e5 e6 e7
 obtain⟨e0,e1,e2,e3,e4,e5,e6,e7⟩:=eightT (cells_up FE.out B1.out (by simp))
 go_wp2_with fail
 refine (merge_any R1.out.texts (texts_nil _) (by simp) (by simp)).mono ?_
 rintro e w9 ⟨v9,rfl,h9,b9⟩
 have T9:=hD h9
 have N9:=hD (below2Z (HB.out.trans (B1.out.mono (Nat.le_succ _))) b9)
 clear h9 b9 e0 e1 e2 e3 e4 e5 e6 e7
 go_wp2_with fail
 go_ret
 exact⟨_,rfl,T9.out,N9.out⟩

theorem touch_no (u o st:List UInt8) (id a b c:Int) (k:Int) (hb:k < 1∨8 < k) (w:World) :
  Calls Tryz.prog 32 #[.agg #[.int .i64 k,.string ⟨u.toArray⟩,.string ⟨o.toArray⟩,.int .i64 id,.int .i64 a,.int .i64 b,.int .i64 c,.string ⟨st.toArray⟩]] w fun e w' => ∃ v,e=.returned v∧Texts w' v (mrg ([] ++ []))∧Below w.heap.size w w':=by
 have t1:(k == 1)=false:=by rw [beq_eq_false_iff_ne]; omega
 have t2:(k == 2)=false:=by rw [beq_eq_false_iff_ne]; omega
 have t3:(k == 3)=false:=by rw [beq_eq_false_iff_ne]; omega
 have t4:(k == 4)=false:=by rw [beq_eq_false_iff_ne]; omega
 have t5:(k == 5)=false:=by rw [beq_eq_false_iff_ne]; omega
 have t6:(k == 6)=false:=by rw [beq_eq_false_iff_ne]; omega
 have t7:(k == 7)=false:=by rw [beq_eq_false_iff_ne]; omega
 have t8:(k == 8)=false:=by rw [beq_eq_false_iff_ne]; omega
 obtain⟨i0,hi,hz0,hz1,hz2⟩:=info_parts Tryz.infoTxt
 have b1:=bl_newZ w (.cells #[.int .i64 k,.string ⟨u.toArray⟩,.string ⟨o.toArray⟩,.int .i64 id,.int .i64 a,.int .i64 b,.int .i64 c,.string ⟨st.toArray⟩] 50)
 have HB:=hD b1
 have FE:=hD (cellsAt_made (w:=w) (cs:=#[.int .i64 k,.string ⟨u.toArray⟩,.string ⟨o.toArray⟩,.int .i64 id,.int .i64 a,.int .i64 b,.int .i64 c,.string ⟨st.toArray⟩]) (vs:=evVals ⟨k,u,o,id,⟨a,b,c,st⟩⟩) rfl 50 rfl)
 have hz:=b1.size
 have hz1w:w.heap.size+1≤(w.alloc (.cells #[.int .i64 k,.string ⟨u.toArray⟩,.string ⟨o.toArray⟩,.int .i64 id,.int .i64 a,.int .i64 b,.int .i64 c,.string ⟨st.toArray⟩] 50)).heap.size:=by simp
 have yy0:=hz1w
 obtain⟨e0,e1,e2,e3,e4,e5,e6,e7⟩:=eightT FE.out
 clear b1
 have B0:Hid (Below (w.heap.size+1) (w.alloc (.cells #[.int .i64 k,.string ⟨u.toArray⟩,.string ⟨o.toArray⟩,.int .i64 id,.int .i64 a,.int .i64 b,.int .i64 c,.string ⟨st.toArray⟩] 50)) (w.alloc (.cells #[.int .i64 k,.string ⟨u.toArray⟩,.string ⟨o.toArray⟩,.int .i64 id,.int .i64 a,.int .i64 b,.int .i64 c,.string ⟨st.toArray⟩] 50))):=hD (Below.refl _ _)
 go_enter Tryz.func32,Tryz.ntmps32
 go_wp2_with fail
 refine (merge_any (texts_nil _) (texts_nil _) (by simp) (by simp)).mono ?_
 rintro e w9 ⟨v9,rfl,h9,b9⟩
 have T9:=hD h9
 have N9:=hD (below2Z HB.out b9)
 clear h9 b9 e0 e1 e2 e3 e4 e5 e6 e7
 go_wp2_with fail
 go_ret
 exact⟨_,rfl,T9.out,N9.out⟩

theorem touch_any (e:Ev) (w:World) :
  Calls Tryz.prog 32 #[.agg #[.int .i64 e.k,.string ⟨e.u.toArray⟩,.string ⟨e.o.toArray⟩,.int .i64 e.id,.int .i64 e.v.sh,.int .i64 e.v.pr,.int .i64 e.v.si,.string ⟨e.v.st.toArray⟩]] w fun z w' => ∃ v,z=.returned v∧Texts w' v (stTouch e)∧Below w.heap.size w w':=by
 obtain⟨k,u,o,id,⟨a,b,c,st⟩⟩:=e
 by_cases hb:k < 1∨8 < k
 ·rw [stTouch_no hb]
  exact touch_no u o st id a b c k hb w
 ·by_cases h6:k≤6
  ·rw [stTouch_two (by show 1≤k; omega) h6]
   have hk:k=1∨k=2∨k=3∨k=4∨k=5∨k=6:=by omega
   rcases hk with rfl | rfl | rfl | rfl | rfl | rfl
   ·exact touch_c1 u o st id a b c w
   ·exact touch_c2 u o st id a b c w
   ·exact touch_c3 u o st id a b c w
   ·exact touch_c4 u o st id a b c w
   ·exact touch_c5 u o st id a b c w
   ·exact touch_c6 u o st id a b c w
  ·have hk:k=7∨k=8:=by omega
   rw [stTouch_one hk]
   rcases hk with rfl | rfl
   ·exact touch_c7 u o st id a b c w
   ·exact touch_c8 u o st id a b c w

end Go.Proofs.YtphfinlfabklmaaGreat
