/-
 TEXTS OF THE PROOF, one behind the other: SubDo5, SubDo6, SubAct, SubLive, RosCmp.
-/
import Derived.Test.YtphfinlfabklmaaGreatB07
import Derived.Test.YtphfinlfabklmaaGreatB08
import Derived.Test.YtphfinlfabklmaaGreatB02
import Derived.Test.YtphfinlfabklmaaGreatB01

set_option maxHeartbeats 12800000
set_option maxRecDepth 100000

section

namespace Go.Proofs.YtphfinlfabklmaaGreat
open Go.RowKit

theorem block_eq (a1 a2 a3 a4 a5 b1 b2 b3 b4 b5:Bool) {x1 x2 x3 x4 x5 y1 y2 y3 y4 y5:Bool} {er:Nat} (h:Hid (suDo ⟨a1,a2,a3,a4,a5⟩ ⟨b1,b2,b3,b4,b5⟩ 5=(⟨x1,x2,x3,x4,x5⟩,⟨y1,y2,y3,y4,y5⟩,er))) (w:World) :
  Calls Tryz.prog 222 #[.agg #[.bool a1,.bool a2,.bool a3,.bool a4,.bool a5,.bool b1,.bool b2,.bool b3,.bool b4,.bool b5]] w fun e w' => e=.returned (.tuple #[.agg #[.bool x1,.bool x2,.bool x3,.bool x4,.bool x5,.bool y1,.bool y2,.bool y3,.bool y4,.bool y5],.int .i64 er])∧Below w.heap.size w w':=by
 have g:=block_any a1 a2 a3 a4 a5 b1 b2 b3 b4 b5 w
 rw [h.out] at g
 exact g

theorem sact_err5 (a1 a2 a3 a4 a5 b1 b2 b3 b4 b5:Bool) {x1 x2 x3 x4 x5 y1 y2 y3 y4 y5:Bool} {er:Nat} (he:er ≠ 0) (HM:Hid (suMay ⟨a1,a2,a3,a4,a5⟩ ⟨b1,b2,b3,b4,b5⟩=true)) (HD:Hid (suDo ⟨a1,a2,a3,a4,a5⟩ ⟨b1,b2,b3,b4,b5⟩ 5=(⟨x1,x2,x3,x4,x5⟩,⟨y1,y2,y3,y4,y5⟩,er))) (w:World) :
  Calls Tryz.prog 145 #[.agg #[.bool a1,.bool a2,.bool a3,.bool a4,.bool a5],.agg #[.bool b1,.bool b2,.bool b3,.bool b4,.bool b5],.int .i64 5] w fun e w' => e=.returned (actE (⟨a1,a2,a3,a4,a5⟩,⟨b1,b2,b3,b4,b5⟩,er))∧Below w.heap.size w w':=by
 have t1:((er:Int) != 0)=true:=by rw [bne_iff_ne]; omega
 clear he
 have B0:Hid (Below w.heap.size w (((((w.alloc (.cells #[.bool a1,.bool a2,.bool a3,.bool a4,.bool a5] 115)).alloc (.cells #[.bool b1,.bool b2,.bool b3,.bool b4,.bool b5] 115)).alloc (.cells #[.bool false,.bool false,.bool false,.bool false,.bool false] 115)).alloc (.cells #[.bool false,.bool false,.bool false,.bool false,.bool false] 115)))):=hD (((((Below.refl _ _).alloc (Nat.le_refl _) _).alloc (by simp) _).alloc (by simp; omega) _).alloc (by simp; omega) _)
 go_enter Tryz.func145,Tryz.ntmps145
 go_wp2_with fail
 refine (kinds_any _).mono ?_
 rintro e w1 ⟨rfl,hf,hb⟩
 have hl0:=hf.look 5 (by decide)
 have hl1:∀ B,B=(((((w.alloc (.cells #[.bool a1,.bool a2,.bool a3,.bool a4,.bool a5] 115)).alloc (.cells #[.bool b1,.bool b2,.bool b3,.bool b4,.bool b5] 115)).alloc (.cells #[.bool false,.bool false,.bool false,.bool false,.bool false] 115)).alloc (.cells #[.bool false,.bool false,.bool false,.bool false,.bool false] 115))).heap.size→(Instr.lookup 211 (.map (some B)) (.int .i64 5) true).run Tryz.prog w1=.ok (.tuple #[.func (.func 222) #[] #[],.bool true]) w1:=fun B e => by rw [e]; exact hl0
 have hl:=hl1 (w.heap.size+1+1+1+1) (by simp)
 clear hl0 hl1
 have HB1:Hid (Below w.heap.size w w1):=hD (below2S B0.out hb)
 have hz1:w.heap.size+1+1+1+1≤w1.heap.size:=by have:=hb.size; simp at this; omega
 obtain⟨c00,c01,c02,c03,c04,c10,c11,c12,c13,c14,c20,z20,c21,z21,c22,z22,c23,z23,c24,z24,c30,z30,c31,z31,c32,z32,c33,z33,c34,z34⟩:=act_cells hb
 clear hf hb
 go_wp2_with fail
 refine (smay_eq _ _ _ _ _ _ _ _ _ _ HM _).mono ?_
 rintro e w2 ⟨rfl,rfl⟩
 obtain⟨w2,hw2⟩ : ∃ w2,w2=(w1.alloc (.cells #[.bool a1,.bool a2,.bool a3,.bool a4,.bool a5] 115)).alloc (.cells #[.bool b1,.bool b2,.bool b3,.bool b4,.bool b5] 115):=⟨_,rfl⟩
 rw [← hw2]
 have hb2:Below w1.heap.size w1 w2:=by rw [hw2]; exact ((Below.refl _ _).alloc (Nat.le_refl _) _).alloc (by simp) _
 have HB2:Hid (Below w.heap.size w w2):=hD (below2S HB1.out hb2)
 have hz2:w.heap.size+1+1+1+1≤w2.heap.size:=Nat.le_trans hz1 hb2.size
 clear hw2
 have hcs:=act30 hb2 c00 c01 c02 c03 c04 c10 c11 c12 c13 c14 c20 c21 c22 c23 c24 c30 c31 c32 c33 c34 z20 z21 z22 z23 z24 z30 z31 z32 z33 z34
 clear c00 c01 c02 c03 c04 c10 c11 c12 c13 c14 c20 c21 c22 c23 c24 c30 c31 c32 c33 c34 z20 z21 z22 z23 z24 z30 z31 z32 z33 z34
 obtain⟨c00,c01,c02,c03,c04,c10,c11,c12,c13,c14,c20,c21,c22,c23,c24,c30,c31,c32,c33,c34,z20,z21,z22,z23,z24,z30,z31,z32,z33,z34⟩:=hcs
 clear hb2 hz1
 go_wp2_with fail
 refine (block_eq _ _ _ _ _ _ _ _ _ _ HD _).mono ?_
 rintro e w3 ⟨rfl,hb3⟩
 have HB3:Hid (Below w.heap.size w w3):=hD (below2S HB2.out hb3)
 have hz3:w.heap.size+1+1+1+1≤w3.heap.size:=Nat.le_trans hz2 hb3.size
 have hcs:=act30 hb3 c00 c01 c02 c03 c04 c10 c11 c12 c13 c14 c20 c21 c22 c23 c24 c30 c31 c32 c33 c34 z20 z21 z22 z23 z24 z30 z31 z32 z33 z34
 clear c00 c01 c02 c03 c04 c10 c11 c12 c13 c14 c20 c21 c22 c23 c24 c30 c31 c32 c33 c34 z20 z21 z22 z23 z24 z30 z31 z32 z33 z34
 obtain⟨c00,c01,c02,c03,c04,c10,c11,c12,c13,c14,c20,c21,c22,c23,c24,c30,c31,c32,c33,c34,z20,z21,z22,z23,z24,z30,z31,z32,z33,z34⟩:=hcs
 clear hb3 hz2
 go_wp2_with fail
 have hb4:Below w3.heap.size w3 (w3.alloc (.cells #[.bool x1,.bool x2,.bool x3,.bool x4,.bool x5,.bool y1,.bool y2,.bool y3,.bool y4,.bool y5] 214)):=(Below.refl _ _).alloc (Nat.le_refl _) _
 have HB4:Hid (Below w.heap.size w (w3.alloc (.cells #[.bool x1,.bool x2,.bool x3,.bool x4,.bool x5,.bool y1,.bool y2,.bool y3,.bool y4,.bool y5] 214))):=hD (below2S HB3.out hb4)
 have hcs:=act30 hb4 c00 c01 c02 c03 c04 c10 c11 c12 c13 c14 c20 c21 c22 c23 c24 c30 c31 c32 c33 c34 z20 z21 z22 z23 z24 z30 z31 z32 z33 z34
 clear c00 c01 c02 c03 c04 c10 c11 c12 c13 c14 c20 c21 c22 c23 c24 c30 c31 c32 c33 c34 z20 z21 z22 z23 z24 z30 z31 z32 z33 z34
 obtain⟨c00,c01,c02,c03,c04,c10,c11,c12,c13,c14,c20,c21,c22,c23,c24,c30,c31,c32,c33,c34,z20,z21,z22,z23,z24,z30,z31,z32,z33,z34⟩:=hcs
 go_region
 try go_wp2_with fail
 obtain⟨r0,r1,r2,r3,r4,r5,r6,r7,r8,r9⟩:=set10_get (w3.alloc (.cells #[.bool x1,.bool x2,.bool x3,.bool x4,.bool x5,.bool y1,.bool y2,.bool y3,.bool y4,.bool y5] 214)) (w.heap.size+1+1) (w.heap.size+1+1+1) (by omega) (.bool a1) (.bool a2) (.bool a3) (.bool a4) (.bool a5) (.bool b1) (.bool b2) (.bool b3) (.bool b4) (.bool b5) _ _ _ _ _ _ _ _ _ _ c20 c21 c22 c23 c24 c30 c31 c32 c33 c34
 have hB:=set10_below HB4.out (w.heap.size+1+1) (w.heap.size+1+1+1) (by omega) (by omega) (.bool a1) (.bool a2) (.bool a3) (.bool a4) (.bool a5) (.bool b1) (.bool b2) (.bool b3) (.bool b4) (.bool b5)
 show bodyPost _ _ _ _ _ (set10 (w3.alloc (.cells #[.bool x1,.bool x2,.bool x3,.bool x4,.bool x5,.bool y1,.bool y2,.bool y3,.bool y4,.bool y5] 214)) (w.heap.size+1+1) (w.heap.size+1+1+1) (.bool a1) (.bool a2) (.bool a3) (.bool a4) (.bool a5) (.bool b1) (.bool b2) (.bool b3) (.bool b4) (.bool b5)).drew
 exact bodyPost_ret (v:=actE (⟨a1,a2,a3,a4,a5⟩,⟨b1,b2,b3,b4,b5⟩,er)) (by simp [results,Tryz.results145,go_sem,actE,r0,r1,r2,r3,r4,r5,r6,r7,r8,r9]) rfl ⟨rfl,hB.drew⟩

theorem sact_ok5 (a1 a2 a3 a4 a5 b1 b2 b3 b4 b5:Bool) {x1 x2 x3 x4 x5 y1 y2 y3 y4 y5:Bool} (HM:Hid (suMay ⟨a1,a2,a3,a4,a5⟩ ⟨b1,b2,b3,b4,b5⟩=true)) (HD:Hid (suDo ⟨a1,a2,a3,a4,a5⟩ ⟨b1,b2,b3,b4,b5⟩ 5=(⟨x1,x2,x3,x4,x5⟩,⟨y1,y2,y3,y4,y5⟩,0))) (w:World) :
  Calls Tryz.prog 145 #[.agg #[.bool a1,.bool a2,.bool a3,.bool a4,.bool a5],.agg #[.bool b1,.bool b2,.bool b3,.bool b4,.bool b5],.int .i64 5] w fun e w' => e=.returned (actE (⟨x1,x2,x3,x4,x5⟩,⟨y1,y2,y3,y4,y5⟩,0))∧Below w.heap.size w w':=by
 have B0:Hid (Below w.heap.size w (((((w.alloc (.cells #[.bool a1,.bool a2,.bool a3,.bool a4,.bool a5] 115)).alloc (.cells #[.bool b1,.bool b2,.bool b3,.bool b4,.bool b5] 115)).alloc (.cells #[.bool false,.bool false,.bool false,.bool false,.bool false] 115)).alloc (.cells #[.bool false,.bool false,.bool false,.bool false,.bool false] 115)))):=hD (((((Below.refl _ _).alloc (Nat.le_refl _) _).alloc (by simp) _).alloc (by simp; omega) _).alloc (by simp; omega) _)
 go_enter Tryz.func145,Tryz.ntmps145
 go_wp2_with fail
 refine (kinds_any _).mono ?_
 rintro e w1 ⟨rfl,hf,hb⟩
 have hl0:=hf.look 5 (by decide)
 have hl1:∀ B,B=(((((w.alloc (.cells #[.bool a1,.bool a2,.bool a3,.bool a4,.bool a5] 115)).alloc (.cells #[.bool b1,.bool b2,.bool b3,.bool b4,.bool b5] 115)).alloc (.cells #[.bool false,.bool false,.bool false,.bool false,.bool false] 115)).alloc (.cells #[.bool false,.bool false,.bool false,.bool false,.bool false] 115))).heap.size→(Instr.lookup 211 (.map (some B)) (.int .i64 5) true).run Tryz.prog w1=.ok (.tuple #[.func (.func 222) #[] #[],.bool true]) w1:=fun B e => by rw [e]; exact hl0
 have hl:=hl1 (w.heap.size+1+1+1+1) (by simp)
 clear hl0 hl1
 have HB1:Hid (Below w.heap.size w w1):=hD (below2S B0.out hb)
 have hz1:w.heap.size+1+1+1+1≤w1.heap.size:=by have:=hb.size; simp at this; omega
 obtain⟨c00,c01,c02,c03,c04,c10,c11,c12,c13,c14,c20,z20,c21,z21,c22,z22,c23,z23,c24,z24,c30,z30,c31,z31,c32,z32,c33,z33,c34,z34⟩:=act_cells hb
 clear hf hb
 go_wp2_with fail
 refine (smay_eq _ _ _ _ _ _ _ _ _ _ HM _).mono ?_
 rintro e w2 ⟨rfl,rfl⟩
 obtain⟨w2,hw2⟩ : ∃ w2,w2=(w1.alloc (.cells #[.bool a1,.bool a2,.bool a3,.bool a4,.bool a5] 115)).alloc (.cells #[.bool b1,.bool b2,.bool b3,.bool b4,.bool b5] 115):=⟨_,rfl⟩
 rw [← hw2]
 have hb2:Below w1.heap.size w1 w2:=by rw [hw2]; exact ((Below.refl _ _).alloc (Nat.le_refl _) _).alloc (by simp) _
 have HB2:Hid (Below w.heap.size w w2):=hD (below2S HB1.out hb2)
 have hz2:w.heap.size+1+1+1+1≤w2.heap.size:=Nat.le_trans hz1 hb2.size
 clear hw2
 have hcs:=act30 hb2 c00 c01 c02 c03 c04 c10 c11 c12 c13 c14 c20 c21 c22 c23 c24 c30 c31 c32 c33 c34 z20 z21 z22 z23 z24 z30 z31 z32 z33 z34
 clear c00 c01 c02 c03 c04 c10 c11 c12 c13 c14 c20 c21 c22 c23 c24 c30 c31 c32 c33 c34 z20 z21 z22 z23 z24 z30 z31 z32 z33 z34
 obtain⟨c00,c01,c02,c03,c04,c10,c11,c12,c13,c14,c20,c21,c22,c23,c24,c30,c31,c32,c33,c34,z20,z21,z22,z23,z24,z30,z31,z32,z33,z34⟩:=hcs
 clear hb2 hz1
 go_wp2_with fail
 refine (block_eq _ _ _ _ _ _ _ _ _ _ HD _).mono ?_
 rintro e w3 ⟨rfl,hb3⟩
 have HB3:Hid (Below w.heap.size w w3):=hD (below2S HB2.out hb3)
 have hz3:w.heap.size+1+1+1+1≤w3.heap.size:=Nat.le_trans hz2 hb3.size
 have hcs:=act30 hb3 c00 c01 c02 c03 c04 c10 c11 c12 c13 c14 c20 c21 c22 c23 c24 c30 c31 c32 c33 c34 z20 z21 z22 z23 z24 z30 z31 z32 z33 z34
 clear c00 c01 c02 c03 c04 c10 c11 c12 c13 c14 c20 c21 c22 c23 c24 c30 c31 c32 c33 c34 z20 z21 z22 z23 z24 z30 z31 z32 z33 z34
 obtain⟨c00,c01,c02,c03,c04,c10,c11,c12,c13,c14,c20,c21,c22,c23,c24,c30,c31,c32,c33,c34,z20,z21,z22,z23,z24,z30,z31,z32,z33,z34⟩:=hcs
 clear hb3 hz2
 go_wp2_with fail
 have hb4:Below w3.heap.size w3 (w3.alloc (.cells #[.bool x1,.bool x2,.bool x3,.bool x4,.bool x5,.bool y1,.bool y2,.bool y3,.bool y4,.bool y5] 214)):=(Below.refl _ _).alloc (Nat.le_refl _) _
 have HB4:Hid (Below w.heap.size w (w3.alloc (.cells #[.bool x1,.bool x2,.bool x3,.bool x4,.bool x5,.bool y1,.bool y2,.bool y3,.bool y4,.bool y5] 214))):=hD (below2S HB3.out hb4)
 have hcs:=act30 hb4 c00 c01 c02 c03 c04 c10 c11 c12 c13 c14 c20 c21 c22 c23 c24 c30 c31 c32 c33 c34 z20 z21 z22 z23 z24 z30 z31 z32 z33 z34
 clear c00 c01 c02 c03 c04 c10 c11 c12 c13 c14 c20 c21 c22 c23 c24 c30 c31 c32 c33 c34 z20 z21 z22 z23 z24 z30 z31 z32 z33 z34
 obtain⟨c00,c01,c02,c03,c04,c10,c11,c12,c13,c14,c20,c21,c22,c23,c24,c30,c31,c32,c33,c34,z20,z21,z22,z23,z24,z30,z31,z32,z33,z34⟩:=hcs
 go_region
 try go_wp2_with fail
 obtain⟨r0,r1,r2,r3,r4,r5,r6,r7,r8,r9⟩:=set10_get (w3.alloc (.cells #[.bool x1,.bool x2,.bool x3,.bool x4,.bool x5,.bool y1,.bool y2,.bool y3,.bool y4,.bool y5] 214)) (w.heap.size+1+1) (w.heap.size+1+1+1) (by omega) (.bool x1) (.bool x2) (.bool x3) (.bool x4) (.bool x5) (.bool y1) (.bool y2) (.bool y3) (.bool y4) (.bool y5) _ _ _ _ _ _ _ _ _ _ c20 c21 c22 c23 c24 c30 c31 c32 c33 c34
 have hB:=set10_below HB4.out (w.heap.size+1+1) (w.heap.size+1+1+1) (by omega) (by omega) (.bool x1) (.bool x2) (.bool x3) (.bool x4) (.bool x5) (.bool y1) (.bool y2) (.bool y3) (.bool y4) (.bool y5)
 show bodyPost _ _ _ _ _ (set10 (w3.alloc (.cells #[.bool x1,.bool x2,.bool x3,.bool x4,.bool x5,.bool y1,.bool y2,.bool y3,.bool y4,.bool y5] 214)) (w.heap.size+1+1) (w.heap.size+1+1+1) (.bool x1) (.bool x2) (.bool x3) (.bool x4) (.bool x5) (.bool y1) (.bool y2) (.bool y3) (.bool y4) (.bool y5)).drew
 exact bodyPost_ret (v:=actE (⟨x1,x2,x3,x4,x5⟩,⟨y1,y2,y3,y4,y5⟩,0)) (by simp [results,Tryz.results145,go_sem,actE,r0,r1,r2,r3,r4,r5,r6,r7,r8,r9]) rfl ⟨rfl,hB.drew⟩

end Go.Proofs.YtphfinlfabklmaaGreat

end

section

namespace Go.Proofs.YtphfinlfabklmaaGreat
open Go.RowKit

theorem unblock_eq (a1 a2 a3 a4 a5 b1 b2 b3 b4 b5:Bool) {x1 x2 x3 x4 x5 y1 y2 y3 y4 y5:Bool} {er:Nat} (h:Hid (suDo ⟨a1,a2,a3,a4,a5⟩ ⟨b1,b2,b3,b4,b5⟩ 6=(⟨x1,x2,x3,x4,x5⟩,⟨y1,y2,y3,y4,y5⟩,er))) (w:World) :
  Calls Tryz.prog 223 #[.agg #[.bool a1,.bool a2,.bool a3,.bool a4,.bool a5,.bool b1,.bool b2,.bool b3,.bool b4,.bool b5]] w fun e w' => e=.returned (.tuple #[.agg #[.bool x1,.bool x2,.bool x3,.bool x4,.bool x5,.bool y1,.bool y2,.bool y3,.bool y4,.bool y5],.int .i64 er])∧Below w.heap.size w w':=by
 have g:=unblock_any a1 a2 a3 a4 a5 b1 b2 b3 b4 b5 w
 rw [h.out] at g
 exact g

theorem sact_err6 (a1 a2 a3 a4 a5 b1 b2 b3 b4 b5:Bool) {x1 x2 x3 x4 x5 y1 y2 y3 y4 y5:Bool} {er:Nat} (he:er ≠ 0) (HM:Hid (suMay ⟨a1,a2,a3,a4,a5⟩ ⟨b1,b2,b3,b4,b5⟩=true)) (HD:Hid (suDo ⟨a1,a2,a3,a4,a5⟩ ⟨b1,b2,b3,b4,b5⟩ 6=(⟨x1,x2,x3,x4,x5⟩,⟨y1,y2,y3,y4,y5⟩,er))) (w:World) :
  Calls Tryz.prog 145 #[.agg #[.bool a1,.bool a2,.bool a3,.bool a4,.bool a5],.agg #[.bool b1,.bool b2,.bool b3,.bool b4,.bool b5],.int .i64 6] w fun e w' => e=.returned (actE (⟨a1,a2,a3,a4,a5⟩,⟨b1,b2,b3,b4,b5⟩,er))∧Below w.heap.size w w':=by
 have t1:((er:Int) != 0)=true:=by rw [bne_iff_ne]; omega
 clear he
 have B0:Hid (Below w.heap.size w (((((w.alloc (.cells #[.bool a1,.bool a2,.bool a3,.bool a4,.bool a5] 115)).alloc (.cells #[.bool b1,.bool b2,.bool b3,.bool b4,.bool b5] 115)).alloc (.cells #[.bool false,.bool false,.bool false,.bool false,.bool false] 115)).alloc (.cells #[.bool false,.bool false,.bool false,.bool false,.bool false] 115)))):=hD (((((Below.refl _ _).alloc (Nat.le_refl _) _).alloc (by simp) _).alloc (by simp; omega) _).alloc (by simp; omega) _)
 go_enter Tryz.func145,Tryz.ntmps145
 go_wp2_with fail
 refine (kinds_any _).mono ?_
 rintro e w1 ⟨rfl,hf,hb⟩
 have hl0:=hf.look 6 (by decide)
 have hl1:∀ B,B=(((((w.alloc (.cells #[.bool a1,.bool a2,.bool a3,.bool a4,.bool a5] 115)).alloc (.cells #[.bool b1,.bool b2,.bool b3,.bool b4,.bool b5] 115)).alloc (.cells #[.bool false,.bool false,.bool false,.bool false,.bool false] 115)).alloc (.cells #[.bool false,.bool false,.bool false,.bool false,.bool false] 115))).heap.size→(Instr.lookup 211 (.map (some B)) (.int .i64 6) true).run Tryz.prog w1=.ok (.tuple #[.func (.func 223) #[] #[],.bool true]) w1:=fun B e => by rw [e]; exact hl0
 have hl:=hl1 (w.heap.size+1+1+1+1) (by simp)
 clear hl0 hl1
 have HB1:Hid (Below w.heap.size w w1):=hD (below2S B0.out hb)
 have hz1:w.heap.size+1+1+1+1≤w1.heap.size:=by have:=hb.size; simp at this; omega
 obtain⟨c00,c01,c02,c03,c04,c10,c11,c12,c13,c14,c20,z20,c21,z21,c22,z22,c23,z23,c24,z24,c30,z30,c31,z31,c32,z32,c33,z33,c34,z34⟩:=act_cells hb
 clear hf hb
 go_wp2_with fail
 refine (smay_eq _ _ _ _ _ _ _ _ _ _ HM _).mono ?_
 rintro e w2 ⟨rfl,rfl⟩
 obtain⟨w2,hw2⟩ : ∃ w2,w2=(w1.alloc (.cells #[.bool a1,.bool a2,.bool a3,.bool a4,.bool a5] 115)).alloc (.cells #[.bool b1,.bool b2,.bool b3,.bool b4,.bool b5] 115):=⟨_,rfl⟩
 rw [← hw2]
 have hb2:Below w1.heap.size w1 w2:=by rw [hw2]; exact ((Below.refl _ _).alloc (Nat.le_refl _) _).alloc (by simp) _
 have HB2:Hid (Below w.heap.size w w2):=hD (below2S HB1.out hb2)
 have hz2:w.heap.size+1+1+1+1≤w2.heap.size:=Nat.le_trans hz1 hb2.size
 clear hw2
 have hcs:=act30 hb2 c00 c01 c02 c03 c04 c10 c11 c12 c13 c14 c20 c21 c22 c23 c24 c30 c31 c32 c33 c34 z20 z21 z22 z23 z24 z30 z31 z32 z33 z34
 clear c00 c01 c02 c03 c04 c10 c11 c12 c13 c14 c20 c21 c22 c23 c24 c30 c31 c32 c33 c34 z20 z21 z22 z23 z24 z30 z31 z32 z33 z34
 obtain⟨c00,c01,c02,c03,c04,c10,c11,c12,c13,c14,c20,c21,c22,c23,c24,c30,c31,c32,c33,c34,z20,z21,z22,z23,z24,z30,z31,z32,z33,z34⟩:=hcs
 clear hb2 hz1
 go_wp2_with fail
 refine (unblock_eq _ _ _ _ _ _ _ _ _ _ HD _).mono ?_
 rintro e w3 ⟨rfl,hb3⟩
 have HB3:Hid (Below w.heap.size w w3):=hD (below2S HB2.out hb3)
 have hz3:w.heap.size+1+1+1+1≤w3.heap.size:=Nat.le_trans hz2 hb3.size
 have hcs:=act30 hb3 c00 c01 c02 c03 c04 c10 c11 c12 c13 c14 c20 c21 c22 c23 c24 c30 c31 c32 c33 c34 z20 z21 z22 z23 z24 z30 z31 z32 z33 z34
 clear c00 c01 c02 c03 c04 c10 c11 c12 c13 c14 c20 c21 c22 c23 c24 c30 c31 c32 c33 c34 z20 z21 z22 z23 z24 z30 z31 z32 z33 z34
 obtain⟨c00,c01,c02,c03,c04,c10,c11,c12,c13,c14,c20,c21,c22,c23,c24,c30,c31,c32,c33,c34,z20,z21,z22,z23,z24,z30,z31,z32,z33,z34⟩:=hcs
 clear hb3 hz2
 go_wp2_with fail
 have hb4:Below w3.heap.size w3 (w3.alloc (.cells #[.bool x1,.bool x2,.bool x3,.bool x4,.bool x5,.bool y1,.bool y2,.bool y3,.bool y4,.bool y5] 214)):=(Below.refl _ _).alloc (Nat.le_refl _) _
 have HB4:Hid (Below w.heap.size w (w3.alloc (.cells #[.bool x1,.bool x2,.bool x3,.bool x4,.bool x5,.bool y1,.bool y2,.bool y3,.bool y4,.bool y5] 214))):=hD (below2S HB3.out hb4)
 have hcs:=act30 hb4 c00 c01 c02 c03 c04 c10 c11 c12 c13 c14 c20 c21 c22 c23 c24 c30 c31 c32 c33 c34 z20 z21 z22 z23 z24 z30 z31 z32 z33 z34
 clear c00 c01 c02 c03 c04 c10 c11 c12 c13 c14 c20 c21 c22 c23 c24 c30 c31 c32 c33 c34 z20 z21 z22 z23 z24 z30 z31 z32 z33 z34
 obtain⟨c00,c01,c02,c03,c04,c10,c11,c12,c13,c14,c20,c21,c22,c23,c24,c30,c31,c32,c33,c34,z20,z21,z22,z23,z24,z30,z31,z32,z33,z34⟩:=hcs
 go_region
 try go_wp2_with fail
 obtain⟨r0,r1,r2,r3,r4,r5,r6,r7,r8,r9⟩:=set10_get (w3.alloc (.cells #[.bool x1,.bool x2,.bool x3,.bool x4,.bool x5,.bool y1,.bool y2,.bool y3,.bool y4,.bool y5] 214)) (w.heap.size+1+1) (w.heap.size+1+1+1) (by omega) (.bool a1) (.bool a2) (.bool a3) (.bool a4) (.bool a5) (.bool b1) (.bool b2) (.bool b3) (.bool b4) (.bool b5) _ _ _ _ _ _ _ _ _ _ c20 c21 c22 c23 c24 c30 c31 c32 c33 c34
 have hB:=set10_below HB4.out (w.heap.size+1+1) (w.heap.size+1+1+1) (by omega) (by omega) (.bool a1) (.bool a2) (.bool a3) (.bool a4) (.bool a5) (.bool b1) (.bool b2) (.bool b3) (.bool b4) (.bool b5)
 show bodyPost _ _ _ _ _ (set10 (w3.alloc (.cells #[.bool x1,.bool x2,.bool x3,.bool x4,.bool x5,.bool y1,.bool y2,.bool y3,.bool y4,.bool y5] 214)) (w.heap.size+1+1) (w.heap.size+1+1+1) (.bool a1) (.bool a2) (.bool a3) (.bool a4) (.bool a5) (.bool b1) (.bool b2) (.bool b3) (.bool b4) (.bool b5)).drew
 exact bodyPost_ret (v:=actE (⟨a1,a2,a3,a4,a5⟩,⟨b1,b2,b3,b4,b5⟩,er)) (by simp [results,Tryz.results145,go_sem,actE,r0,r1,r2,r3,r4,r5,r6,r7,r8,r9]) rfl ⟨rfl,hB.drew⟩

theorem sact_ok6 (a1 a2 a3 a4 a5 b1 b2 b3 b4 b5:Bool) {x1 x2 x3 x4 x5 y1 y2 y3 y4 y5:Bool} (HM:Hid (suMay ⟨a1,a2,a3,a4,a5⟩ ⟨b1,b2,b3,b4,b5⟩=true)) (HD:Hid (suDo ⟨a1,a2,a3,a4,a5⟩ ⟨b1,b2,b3,b4,b5⟩ 6=(⟨x1,x2,x3,x4,x5⟩,⟨y1,y2,y3,y4,y5⟩,0))) (w:World) :
  Calls Tryz.prog 145 #[.agg #[.bool a1,.bool a2,.bool a3,.bool a4,.bool a5],.agg #[.bool b1,.bool b2,.bool b3,.bool b4,.bool b5],.int .i64 6] w fun e w' => e=.returned (actE (⟨x1,x2,x3,x4,x5⟩,⟨y1,y2,y3,y4,y5⟩,0))∧Below w.heap.size w w':=by
 have B0:Hid (Below w.heap.size w (((((w.alloc (.cells #[.bool a1,.bool a2,.bool a3,.bool a4,.bool a5] 115)).alloc (.cells #[.bool b1,.bool b2,.bool b3,.bool b4,.bool b5] 115)).alloc (.cells #[.bool false,.bool false,.bool false,.bool false,.bool false] 115)).alloc (.cells #[.bool false,.bool false,.bool false,.bool false,.bool false] 115)))):=hD (((((Below.refl _ _).alloc (Nat.le_refl _) _).alloc (by simp) _).alloc (by simp; omega) _).alloc (by simp; omega) _)
 go_enter Tryz.func145,Tryz.ntmps145
 go_wp2_with fail
 refine (kinds_any _).mono ?_
 rintro e w1 ⟨rfl,hf,hb⟩
 have hl0:=hf.look 6 (by decide)
 have hl1:∀ B,B=(((((w.alloc (.cells #[.bool a1,.bool a2,.bool a3,.bool a4,.bool a5] 115)).alloc (.cells #[.bool b1,.bool b2,.bool b3,.bool b4,.bool b5] 115)).alloc (.cells #[.bool false,.bool false,.bool false,.bool false,.bool false] 115)).alloc (.cells #[.bool false,.bool false,.bool false,.bool false,.bool false] 115))).heap.size→(Instr.lookup 211 (.map (some B)) (.int .i64 6) true).run Tryz.prog w1=.ok (.tuple #[.func (.func 223) #[] #[],.bool true]) w1:=fun B e => by rw [e]; exact hl0
 have hl:=hl1 (w.heap.size+1+1+1+1) (by simp)
 clear hl0 hl1
 have HB1:Hid (Below w.heap.size w w1):=hD (below2S B0.out hb)
 have hz1:w.heap.size+1+1+1+1≤w1.heap.size:=by have:=hb.size; simp at this; omega
 obtain⟨c00,c01,c02,c03,c04,c10,c11,c12,c13,c14,c20,z20,c21,z21,c22,z22,c23,z23,c24,z24,c30,z30,c31,z31,c32,z32,c33,z33,c34,z34⟩:=act_cells hb
 clear hf hb
 go_wp2_with fail
 refine (smay_eq _ _ _ _ _ _ _ _ _ _ HM _).mono ?_
 rintro e w2 ⟨rfl,rfl⟩
 obtain⟨w2,hw2⟩ : ∃ w2,w2=(w1.alloc (.cells #[.bool a1,.bool a2,.bool a3,.bool a4,.bool a5] 115)).alloc (.cells #[.bool b1,.bool b2,.bool b3,.bool b4,.bool b5] 115):=⟨_,rfl⟩
 rw [← hw2]
 have hb2:Below w1.heap.size w1 w2:=by rw [hw2]; exact ((Below.refl _ _).alloc (Nat.le_refl _) _).alloc (by simp) _
 have HB2:Hid (Below w.heap.size w w2):=hD (below2S HB1.out hb2)
 have hz2:w.heap.size+1+1+1+1≤w2.heap.size:=Nat.le_trans hz1 hb2.size
 clear hw2
 have hcs:=act30 hb2 c00 c01 c02 c03 c04 c10 c11 c12 c13 c14 c20 c21 c22 c23 c24 c30 c31 c32 c33 c34 z20 z21 z22 z23 z24 z30 z31 z32 z33 z34
 clear c00 c01 c02 c03 c04 c10 c11 c12 c13 c14 c20 c21 c22 c23 c24 c30 c31 c32 c33 c34 z20 z21 z22 z23 z24 z30 z31 z32 z33 z34
 obtain⟨c00,c01,c02,c03,c04,c10,c11,c12,c13,c14,c20,c21,c22,c23,c24,c30,c31,c32,c33,c34,z20,z21,z22,z23,z24,z30,z31,z32,z33,z34⟩:=hcs
 clear hb2 hz1
 go_wp2_with fail
 refine (unblock_eq _ _ _ _ _ _ _ _ _ _ HD _).mono ?_
 rintro e w3 ⟨rfl,hb3⟩
 have HB3:Hid (Below w.heap.size w w3):=hD (below2S HB2.out hb3)
 have hz3:w.heap.size+1+1+1+1≤w3.heap.size:=Nat.le_trans hz2 hb3.size
 have hcs:=act30 hb3 c00 c01 c02 c03 c04 c10 c11 c12 c13 c14 c20 c21 c22 c23 c24 c30 c31 c32 c33 c34 z20 z21 z22 z23 z24 z30 z31 z32 z33 z34
 clear c00 c01 c02 c03 c04 c10 c11 c12 c13 c14 c20 c21 c22 c23 c24 c30 c31 c32 c33 c34 z20 z21 z22 z23 z24 z30 z31 z32 z33 z34
 obtain⟨c00,c01,c02,c03,c04,c10,c11,c12,c13,c14,c20,c21,c22,c23,c24,c30,c31,c32,c33,c34,z20,z21,z22,z23,z24,z30,z31,z32,z33,z34⟩:=hcs
 clear hb3 hz2
 go_wp2_with fail
 have hb4:Below w3.heap.size w3 (w3.alloc (.cells #[.bool x1,.bool x2,.bool x3,.bool x4,.bool x5,.bool y1,.bool y2,.bool y3,.bool y4,.bool y5] 214)):=(Below.refl _ _).alloc (Nat.le_refl _) _
 have HB4:Hid (Below w.heap.size w (w3.alloc (.cells #[.bool x1,.bool x2,.bool x3,.bool x4,.bool x5,.bool y1,.bool y2,.bool y3,.bool y4,.bool y5] 214))):=hD (below2S HB3.out hb4)
 have hcs:=act30 hb4 c00 c01 c02 c03 c04 c10 c11 c12 c13 c14 c20 c21 c22 c23 c24 c30 c31 c32 c33 c34 z20 z21 z22 z23 z24 z30 z31 z32 z33 z34
 clear c00 c01 c02 c03 c04 c10 c11 c12 c13 c14 c20 c21 c22 c23 c24 c30 c31 c32 c33 c34 z20 z21 z22 z23 z24 z30 z31 z32 z33 z34
 obtain⟨c00,c01,c02,c03,c04,c10,c11,c12,c13,c14,c20,c21,c22,c23,c24,c30,c31,c32,c33,c34,z20,z21,z22,z23,z24,z30,z31,z32,z33,z34⟩:=hcs
 go_region
 try go_wp2_with fail
 obtain⟨r0,r1,r2,r3,r4,r5,r6,r7,r8,r9⟩:=set10_get (w3.alloc (.cells #[.bool x1,.bool x2,.bool x3,.bool x4,.bool x5,.bool y1,.bool y2,.bool y3,.bool y4,.bool y5] 214)) (w.heap.size+1+1) (w.heap.size+1+1+1) (by omega) (.bool x1) (.bool x2) (.bool x3) (.bool x4) (.bool x5) (.bool y1) (.bool y2) (.bool y3) (.bool y4) (.bool y5) _ _ _ _ _ _ _ _ _ _ c20 c21 c22 c23 c24 c30 c31 c32 c33 c34
 have hB:=set10_below HB4.out (w.heap.size+1+1) (w.heap.size+1+1+1) (by omega) (by omega) (.bool x1) (.bool x2) (.bool x3) (.bool x4) (.bool x5) (.bool y1) (.bool y2) (.bool y3) (.bool y4) (.bool y5)
 show bodyPost _ _ _ _ _ (set10 (w3.alloc (.cells #[.bool x1,.bool x2,.bool x3,.bool x4,.bool x5,.bool y1,.bool y2,.bool y3,.bool y4,.bool y5] 214)) (w.heap.size+1+1) (w.heap.size+1+1+1) (.bool x1) (.bool x2) (.bool x3) (.bool x4) (.bool x5) (.bool y1) (.bool y2) (.bool y3) (.bool y4) (.bool y5)).drew
 exact bodyPost_ret (v:=actE (⟨x1,x2,x3,x4,x5⟩,⟨y1,y2,y3,y4,y5⟩,0)) (by simp [results,Tryz.results145,go_sem,actE,r0,r1,r2,r3,r4,r5,r6,r7,r8,r9]) rfl ⟨rfl,hB.drew⟩

end Go.Proofs.YtphfinlfabklmaaGreat

end

section

namespace Go.Proofs.YtphfinlfabklmaaGreat
open Go.RowKit

theorem suDo_shape (a b:It) (k:Int):∃ x1 x2 x3 x4 x5 y1 y2 y3 y4 y5 er,suDo a b k=(⟨x1,x2,x3,x4,x5⟩,⟨y1,y2,y3,y4,y5⟩,er):=by
 obtain⟨⟨x1,x2,x3,x4,x5⟩,⟨y1,y2,y3,y4,y5⟩,er⟩:=suDo a b k
 exact⟨x1,x2,x3,x4,x5,y1,y2,y3,y4,y5,er,rfl⟩

theorem suDo_err {a b:It} {k:Int} {x y:It} {er:Nat} (hm:suMay a b=true) (h1:1≤k) (h6:k≤6) (h:suDo a b k=(x,y,er)) (he:er ≠ 0):x=a∧y=b :=
 suAct_err (k:=k) (e:=er) (by unfold suAct; rw [if_pos ⟨hm,h1,h6⟩]; exact h) he

theorem suAct_in {a b:It} {k:Int} (hm:suMay a b=true) (h1:1≤k) (h6:k≤6):suAct a b k=suDo a b k:=by
 unfold suAct
 rw [if_pos ⟨hm,h1,h6⟩]

theorem suAct_low {a b:It} {k:Int} (h:k < 1∨6 < k):suAct a b k=(a,b,1):=by
 unfold suAct
 rw [if_neg (fun h' => by omega)]

theorem suAct_not {a b:It} {k:Int} (h:suMay a b=false):suAct a b k=(a,b,1):=by
 unfold suAct
 rw [if_neg (fun h' => by rw [h] at h'; simp at h')]

theorem sact_any (a1 a2 a3 a4 a5 b1 b2 b3 b4 b5:Bool) (k:Int) (hk:(Lit.int .i64 k).wf=true) (w:World) :
  Calls Tryz.prog 145 #[.agg #[.bool a1,.bool a2,.bool a3,.bool a4,.bool a5],.agg #[.bool b1,.bool b2,.bool b3,.bool b4,.bool b5],.int .i64 k] w fun e w' => e=.returned (actE (suAct ⟨a1,a2,a3,a4,a5⟩ ⟨b1,b2,b3,b4,b5⟩ k))∧Below w.heap.size w w':=by
 by_cases ho:k < 1∨6 < k
 ·rw [suAct_low ho]
  exact sact_out a1 a2 a3 a4 a5 b1 b2 b3 b4 b5 k hk ho w
 ·have hr:k=1∨k=2∨k=3∨k=4∨k=5∨k=6:=by omega
  cases hm:suMay ⟨a1,a2,a3,a4,a5⟩ ⟨b1,b2,b3,b4,b5⟩ with
  | false =>
   rw [suAct_not hm]
   exact sact_not a1 a2 a3 a4 a5 b1 b2 b3 b4 b5 k hk (by show _=_; rcases hr with rfl | rfl | rfl | rfl | rfl | rfl <;> rfl) hm w
  | true =>
   rw [suAct_in hm (by omega) (by omega)]
   obtain⟨x1,x2,x3,x4,x5,y1,y2,y3,y4,y5,er,hd⟩:=suDo_shape ⟨a1,a2,a3,a4,a5⟩ ⟨b1,b2,b3,b4,b5⟩ k
   rw [hd]
   by_cases he:er=0
   ·subst he
    rcases hr with rfl | rfl | rfl | rfl | rfl | rfl
    ·exact sact_ok1 a1 a2 a3 a4 a5 b1 b2 b3 b4 b5 hm hd w
    ·exact sact_ok2 a1 a2 a3 a4 a5 b1 b2 b3 b4 b5 hm hd w
    ·exact sact_ok3 a1 a2 a3 a4 a5 b1 b2 b3 b4 b5 hm hd w
    ·exact sact_ok4 a1 a2 a3 a4 a5 b1 b2 b3 b4 b5 hm hd w
    ·exact sact_ok5 a1 a2 a3 a4 a5 b1 b2 b3 b4 b5 hm hd w
    ·exact sact_ok6 a1 a2 a3 a4 a5 b1 b2 b3 b4 b5 hm hd w
   ·obtain⟨e1,e2⟩:=suDo_err hm (by omega) (by omega) hd he
    rw [e1,e2]
    rcases hr with rfl | rfl | rfl | rfl | rfl | rfl
    ·exact sact_err1 a1 a2 a3 a4 a5 b1 b2 b3 b4 b5 he hm hd w
    ·exact sact_err2 a1 a2 a3 a4 a5 b1 b2 b3 b4 b5 he hm hd w
    ·exact sact_err3 a1 a2 a3 a4 a5 b1 b2 b3 b4 b5 he hm hd w
    ·exact sact_err4 a1 a2 a3 a4 a5 b1 b2 b3 b4 b5 he hm hd w
    ·exact sact_err5 a1 a2 a3 a4 a5 b1 b2 b3 b4 b5 he hm hd w
    ·exact sact_err6 a1 a2 a3 a4 a5 b1 b2 b3 b4 b5 he hm hd w

theorem ract_any (a1 a2 a3 a4 a5 b1 b2 b3 b4 b5:Bool) (k:Int) (w:World) :
  Calls Tryz.prog 178 #[.agg #[.bool a1,.bool a2,.bool a3,.bool a4,.bool a5],.agg #[.bool b1,.bool b2,.bool b3,.bool b4,.bool b5],.int .i64 k] w fun e w' => e=.returned (actE (suAct ⟨a1,a2,a3,a4,a5⟩ ⟨b1,b2,b3,b4,b5⟩ k))∧Below w.heap.size w w':=by
 cases hm:suMay ⟨a1,a2,a3,a4,a5⟩ ⟨b1,b2,b3,b4,b5⟩ with
 | false =>
  rw [suAct_not hm]
  exact ract_not a1 a2 a3 a4 a5 b1 b2 b3 b4 b5 k hm w
 | true =>
  by_cases h1:k < 1
  ·rw [suAct_low (.inl h1)]
   exact ract_low a1 a2 a3 a4 a5 b1 b2 b3 b4 b5 k hm h1 w
  ·by_cases h6:6 < k
   ·rw [suAct_low (.inr h6)]
    exact ract_high a1 a2 a3 a4 a5 b1 b2 b3 b4 b5 k hm h6 w
   ·have hr:k=1∨k=2∨k=3∨k=4∨k=5∨k=6:=by omega
    rw [suAct_in hm (by omega) (by omega)]
    rcases hr with rfl | rfl | rfl | rfl | rfl | rfl
    ·exact ract_1 a1 a2 a3 a4 a5 b1 b2 b3 b4 b5 hm w
    ·exact ract_2 a1 a2 a3 a4 a5 b1 b2 b3 b4 b5 hm w
    ·exact ract_3 a1 a2 a3 a4 a5 b1 b2 b3 b4 b5 hm w
    ·exact ract_4 a1 a2 a3 a4 a5 b1 b2 b3 b4 b5 hm w
    ·exact ract_5 a1 a2 a3 a4 a5 b1 b2 b3 b4 b5 hm w
    ·exact ract_6 a1 a2 a3 a4 a5 b1 b2 b3 b4 b5 hm w

theorem ract_eq {a b x y:It} {k:Int} {er:Nat} (h:Hid (suAct a b k=(x,y,er))) (w:World) :
  Calls Tryz.prog 178 #[.agg #[.bool a.to,.bool a.fr,.bool a.out,.bool a.inn,.bool a.bl],.agg #[.bool b.to,.bool b.fr,.bool b.out,.bool b.inn,.bool b.bl],.int .i64 k] w fun e w' => e=.returned (.tuple #[.agg #[.bool x.to,.bool x.fr,.bool x.out,.bool x.inn,.bool x.bl],.agg #[.bool y.to,.bool y.fr,.bool y.out,.bool y.inn,.bool y.bl],.int .i64 er])∧Below w.heap.size w w':=by
 have g:=ract_any a.to a.fr a.out a.inn a.bl b.to b.fr b.out b.inn b.bl k w
 rw [show suAct ⟨a.to,a.fr,a.out,a.inn,a.bl⟩ ⟨b.to,b.fr,b.out,b.inn,b.bl⟩ k=(x,y,er) from h.out] at g
 exact g

end Go.Proofs.YtphfinlfabklmaaGreat

end

section

namespace Go.Proofs.YtphfinlfabklmaaGreat
open Go.RowKit

def ItAt (w:World) (B:Nat) (a:It):Prop :=
 w.cell? ⟨B,0,none⟩=some (.bool a.to)∧w.cell? ⟨B,1,none⟩=some (.bool a.fr)∧w.cell? ⟨B,2,none⟩=some (.bool a.out)∧w.cell? ⟨B,3,none⟩=some (.bool a.inn)∧w.cell? ⟨B,4,none⟩=some (.bool a.bl)

theorem cellLaterS {w w':World} {a:Addr} {v:Value} (h:w.cell? a=some v) (hb:Below w.heap.size w w'):w'.cell? a=some v:=by
 rw [hb.cell (World.block_lt_of_cell? _ _ h)]
 exact h

theorem ItAt.later {w w':World} {B:Nat} {a:It} (h:ItAt w B a) (hb:Below w.heap.size w w'):ItAt w' B a :=
 ⟨cellLaterS h.1 hb,cellLaterS h.2.1 hb,cellLaterS h.2.2.1 hb,cellLaterS h.2.2.2.1 hb,cellLaterS h.2.2.2.2 hb⟩

theorem itAt_made (w:World) (a:It) (B:Nat) (hB:B=w.heap.size):ItAt (w.alloc (.cells #[.bool a.to,.bool a.fr,.bool a.out,.bool a.inn,.bool a.bl] 115)) B a:=by
 subst hB
 refine ⟨?_,?_,?_,?_,?_⟩ <;> (rw [World.cell?_alloc_at _ _ _ _ rfl]; rfl)

theorem bl_allocS {w a:World} (h:Below w.heap.size w a) (o:Obj):Below w.heap.size w (a.alloc o):=h.alloc h.size o

theorem ssees_eq (a1 a2 a3 a4 a5 b1 b2 b3 b4 b5:Bool) {r:Bool} (h:suSees ⟨a1,a2,a3,a4,a5⟩ ⟨b1,b2,b3,b4,b5⟩=r) (w:World) :
  Calls Tryz.prog 80 #[.agg #[.bool a1,.bool a2,.bool a3,.bool a4,.bool a5],.agg #[.bool b1,.bool b2,.bool b3,.bool b4,.bool b5]] w fun e w' => e=.returned (.bool r)∧Below w.heap.size w w':=by
 have g:=ssees_any a1 a2 a3 a4 a5 b1 b2 b3 b4 b5 w
 rw [h] at g
 exact g

theorem smay_bl (a1 a2 a3 a4 a5 b1 b2 b3 b4 b5:Bool) {r:Bool} (h:suMay ⟨a1,a2,a3,a4,a5⟩ ⟨b1,b2,b3,b4,b5⟩=r) (w:World) :
  Calls Tryz.prog 195 #[.agg #[.bool a1,.bool a2,.bool a3,.bool a4,.bool a5],.agg #[.bool b1,.bool b2,.bool b3,.bool b4,.bool b5]] w fun e w' => e=.returned (.bool r)∧Below w.heap.size w w':=by
 have g:=smay_any a1 a2 a3 a4 a5 b1 b2 b3 b4 b5 w
 rw [h] at g
 exact g.mono fun _ _ ⟨he,hw⟩ => ⟨he,by rw [hw]; exact ((Below.refl _ _).alloc (Nat.le_refl _) _).alloc (by simp) _⟩

theorem sempty_eq (a1 a2 a3 a4 a5:Bool) {r:Bool} (h:suEmpty ⟨a1,a2,a3,a4,a5⟩=r) (w:World) :
  Calls Tryz.prog 147 #[.agg #[.bool a1,.bool a2,.bool a3,.bool a4,.bool a5]] w fun e w' => e=.returned (.bool r)∧Below w.heap.size w w':=by
 have g:=sempty_any a1 a2 a3 a4 a5 w
 rw [h] at g
 exact g

theorem rsmay_bl (a1 a2 a3 a4 a5 b1 b2 b3 b4 b5:Bool) {r:Bool} (h:suMay ⟨a1,a2,a3,a4,a5⟩ ⟨b1,b2,b3,b4,b5⟩=r) (w:World) :
  Calls Tryz.prog 136 #[.agg #[.bool a1,.bool a2,.bool a3,.bool a4,.bool a5],.agg #[.bool b1,.bool b2,.bool b3,.bool b4,.bool b5]] w fun e w' => e=.returned (.bool r)∧Below w.heap.size w w':=by
 have g:=rsmay_any a1 a2 a3 a4 a5 b1 b2 b3 b4 b5 w
 rw [h] at g
 exact g.mono fun _ _ ⟨he,hw⟩ => ⟨he,by rw [hw]; exact ((Below.refl _ _).alloc (Nat.le_refl _) _).alloc (by simp) _⟩

theorem rsempty_eq (a1 a2 a3 a4 a5:Bool) {r:Bool} (h:suEmpty ⟨a1,a2,a3,a4,a5⟩=r) (w:World) :
  Calls Tryz.prog 137 #[.agg #[.bool a1,.bool a2,.bool a3,.bool a4,.bool a5]] w fun e w' => e=.returned (.bool r)∧Below w.heap.size w w':=by
 have g:=rsempty_any a1 a2 a3 a4 a5 w
 rw [h] at g
 exact g

end Go.Proofs.YtphfinlfabklmaaGreat

end

section

namespace Go.Proofs.YtphfinlfabklmaaGreat
open Go.RowKit

def entAgg (e:Ent):Value:=.agg #[.string ⟨e.o.toArray⟩,.string ⟨e.c.toArray⟩,.bool e.it.to,.bool e.it.fr,.bool e.it.out,.bool e.it.inn,.bool e.it.bl]

def Cells7 (w:World) (b o:Nat) (e:Ent):Prop :=
 w.cell? ⟨b,o,none⟩=some (.string ⟨e.o.toArray⟩)∧w.cell? ⟨b,o+1,none⟩=some (.string ⟨e.c.toArray⟩)∧w.cell? ⟨b,o+2,none⟩=some (.bool e.it.to)∧w.cell? ⟨b,o+3,none⟩=some (.bool e.it.fr) ∧
  w.cell? ⟨b,o+4,none⟩=some (.bool e.it.out)∧w.cell? ⟨b,o+5,none⟩=some (.bool e.it.inn)∧w.cell? ⟨b,o+6,none⟩=some (.bool e.it.bl)

theorem Cells7.later {w w':World} {b o:Nat} {e:Ent} (h:Cells7 w b o e) (hb:Below w.heap.size w w'):Cells7 w' b o e :=
 ⟨cellLaterS h.1 hb,cellLaterS h.2.1 hb,cellLaterS h.2.2.1 hb,cellLaterS h.2.2.2.1 hb,cellLaterS h.2.2.2.2.1 hb,cellLaterS h.2.2.2.2.2.1 hb,cellLaterS h.2.2.2.2.2.2 hb⟩

def Ents (w:World) (v:Value) (l:List Ent):Prop :=
 ∃ a cap,v=.slice a l.length cap∧l.length≤cap∧cap≤maxLen∧(a=none→cap=0) ∧
  (l=[]∨∃ b off,a=some ⟨b,off,none⟩∧b < w.heap.size∧∀ i,i < l.length→Cells7 w b (off+i * 7) (l.getD i Ent.zero))

theorem Ents.later {w w':World} {v:Value} {l:List Ent} (h:Ents w v l) (hb:Below w.heap.size w w'):Ents w' v l:=by
 obtain⟨a,cap,h1,h2,h3,h4,h5⟩:=h
 refine ⟨a,cap,h1,h2,h3,h4,?_⟩
 rcases h5 with h5 | ⟨b,off,e,hlt,hc⟩
 ·exact .inl h5
 ·exact .inr ⟨b,off,e,Nat.lt_of_lt_of_le hlt hb.size,fun i hi => (hc i hi).later hb⟩

theorem ents_nil (w:World):Ents w (.slice none 0 0) []:=⟨none,0,rfl,by simp,by simp,fun _ => rfl,.inl rfl⟩

theorem Ents.row {w wr:World} {a:Option Addr} {n cap:Nat} {l:List Ent} (h:Ents w (.slice a n cap) l) (hb:Below w.heap.size w wr) (k:Nat) (hk:k < l.length) :
  ∃ b off,a=some ⟨b,off,none⟩∧Cells7 wr b (off+k * 7) (l.getD k Ent.zero):=by
 obtain⟨a',cap',e,_,_,_,h⟩:=h.later hb
 simp only [Value.slice.injEq] at e
 rcases h with h | ⟨b,off,e',_,hc⟩
 ·rw [h] at hk; simp at hk
 ·exact⟨b,off,e.1.trans e',hc k hk⟩

theorem Ents.open' {w:World} {v:Value} {l:List Ent} (h:Ents w v l):∃ a cap,v=.slice a l.length cap∧l.length≤9223372036854775807:=by
 obtain⟨a,cap,e,h1,h2,_⟩:=h
 unfold maxLen at h2
 exact⟨a,cap,e,by omega⟩

def ShortE (l:List Ent):Prop:=∀ e ∈ l,e.o.length≤4294967296∧e.c.length≤4294967296

theorem ShortE.get {l:List Ent} (h:ShortE l) {k:Nat} (hk:k < l.length):(l.getD k Ent.zero).o.length≤4294967296∧(l.getD k Ent.zero).c.length≤4294967296:=by
 rw [getD_at hk]
 exact h _ (List.getElem_mem hk)

def ordI (a b:List UInt8):Int:=if idLess a b=true then -1 else if idLess b a=true then 1 else 0

theorem order_any (a b:List UInt8) (w:World) :
  Calls Tryz.prog 189 #[.string ⟨a.toArray⟩,.string ⟨b.toArray⟩] w fun e w' => e=.returned (.int .i64 (ordI a b))∧Below w.heap.size w w':=by
 unfold ordI
 cases h1:idLess a b with
 | true =>
  have H1:=hD h1
  clear h1
  simp only [if_true]
  go_enter Tryz.func189,Tryz.ntmps189
  go_wp2_with fail
  refine (less_eq a b H1 _).mono ?_
  rintro e w1 ⟨rfl,hb1⟩
  go_wp2_with fail
  go_ret
  exact⟨rfl,hb1⟩
 | false =>
  have H1:=hD h1
  clear h1
  cases h2:idLess b a with
  | true =>
   have H2:=hD h2
   clear h2
   simp only [if_true,Bool.false_eq_true,if_false]
   go_enter Tryz.func189,Tryz.ntmps189
   go_wp2_with fail
   refine (less_eq a b H1 _).mono ?_
   rintro e w1 ⟨rfl,hb1⟩
   go_wp2_with fail
   refine (less_eq b a H2 _).mono ?_
   rintro e w2 ⟨rfl,hb2⟩
   go_wp2_with fail
   go_ret
   exact⟨rfl,below2S hb1 hb2⟩
  | false =>
   have H2:=hD h2
   clear h2
   simp only [Bool.false_eq_true,if_false]
   go_enter Tryz.func189,Tryz.ntmps189
   go_wp2_with fail
   refine (less_eq a b H1 _).mono ?_
   rintro e w1 ⟨rfl,hb1⟩
   go_wp2_with fail
   refine (less_eq b a H2 _).mono ?_
   rintro e w2 ⟨rfl,hb2⟩
   go_wp2_with fail
   go_ret
   exact⟨rfl,below2S hb1 hb2⟩

def entI (a b:Ent):Int:=if a.o=b.o then ordI a.c b.c else ordI a.o b.o

theorem ordI_lt (a b:List UInt8):(ordI a b < 0)=(idLess a b=true):=by
 unfold ordI
 cases idLess a b <;> cases idLess b a <;> simp

theorem entI_lt (a b:Ent):(entI a b < 0)=(entLt a b=true):=by
 unfold entI entLt
 by_cases h:a.o=b.o
 ·rw [if_pos h,ordI_lt,h,idLess_irrefl]
  simp
 ·rw [if_neg h,ordI_lt]
  simp [h]

theorem ordI_zero (a b:List UInt8):(ordI a b=0)=(a=b):=by
 unfold ordI
 rcases idLess_tri a b with ⟨h1,h2,h3⟩ | ⟨h1,h2,h3⟩ | ⟨h1,h2,h3⟩
 ·simp [h1,h3]
 ·simp [h1,h2,h3]
 ·subst h3; simp [idLess_irrefl]

theorem entI_zero (a b:Ent):(entI a b=0)=(entIs a b=true):=by
 unfold entI entIs
 by_cases h:a.o=b.o
 ·rw [if_pos h,ordI_zero]
  simp [h]
 ·rw [if_neg h,ordI_zero]
  simp [h]

theorem order_eq (a b:List UInt8) {r:Int} (h:Hid (ordI a b=r)) (w:World) :
  Calls Tryz.prog 189 #[.string ⟨a.toArray⟩,.string ⟨b.toArray⟩] w fun e w' => e=.returned (.int .i64 r)∧Below w.heap.size w w':=by
 have:=order_any a b w
 rwa [h.out] at this

theorem rcompare_any (ao ac bo bc:List UInt8) (x1 x2 x3 x4 x5 y1 y2 y3 y4 y5:Bool) (w:World) :
  Calls Tryz.prog 125 #[.agg #[.string ⟨ao.toArray⟩,.string ⟨ac.toArray⟩,.bool x1,.bool x2,.bool x3,.bool x4,.bool x5],.agg #[.string ⟨bo.toArray⟩,.string ⟨bc.toArray⟩,.bool y1,.bool y2,.bool y3,.bool y4,.bool y5]] w fun e w' => e=.returned (.int .i64 (entI ⟨ao,ac,⟨x1,x2,x3,x4,x5⟩⟩ ⟨bo,bc,⟨y1,y2,y3,y4,y5⟩⟩))∧Below w.heap.size w w':=by
 have B0:Hid (Below w.heap.size w ((w.alloc (.cells #[.string ⟨ao.toArray⟩,.string ⟨ac.toArray⟩,.bool x1,.bool x2,.bool x3,.bool x4,.bool x5] 126)).alloc (.cells #[.string ⟨bo.toArray⟩,.string ⟨bc.toArray⟩,.bool y1,.bool y2,.bool y3,.bool y4,.bool y5] 126))):=hD (((Below.refl _ _).alloc (Nat.le_refl _) _).alloc (by simp) _)
 unfold entI
 simp only
 by_cases h:ao=bo
 ·subst h
  rw [if_pos rfl]
  obtain⟨r,hr⟩ : ∃ r,ordI ac bc=r:=⟨_,rfl⟩
  rw [hr]
  have HO:=hD (order_eq ac bc (hD hr))
  clear hr
  go_enter Tryz.func125,Tryz.ntmps125
  go_wp2_with fail
  refine (HO.out _).mono ?_
  rintro e w1 ⟨rfl,b⟩
  have B1:=hD (below2S B0.out b)
  clear b
  go_wp2_with fail
  go_ret
  exact⟨rfl,B1.out⟩
 ·rw [if_neg h]
  have t1:(ao != bo)=true:=by rw [bne_iff_ne]; exact h
  have t2:(ao == bo)=false:=by rw [beq_eq_false_iff_ne]; exact h
  obtain⟨r,hr⟩ : ∃ r,ordI ao bo=r:=⟨_,rfl⟩
  rw [hr]
  have HO:=hD (order_eq ao bo (hD hr))
  clear hr h
  go_enter Tryz.func125,Tryz.ntmps125
  go_wp2_with fail
  refine (HO.out _).mono ?_
  rintro e w1 ⟨rfl,b⟩
  have B1:=hD (below2S B0.out b)
  clear b
  go_wp2_with fail
  go_ret
  exact⟨rfl,B1.out⟩

end Go.Proofs.YtphfinlfabklmaaGreat

end
