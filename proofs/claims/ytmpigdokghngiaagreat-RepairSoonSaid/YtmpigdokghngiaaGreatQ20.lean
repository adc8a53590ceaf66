/-
 TEXTS OF THE PROOF, one behind the other: FraRdec, PacRef, LnkRef, RepRef, FraRfew, CliDoc, RepSync, LnkFrm, QuePopO.
-/
import Derived.Test.YtmpigdokghngiaaGreatQ05
import Derived.Test.YtmpigdokghngiaaGreatQ17
import Derived.Test.YtmpigdokghngiaaGreatQ19
import Derived.Test.YtmpigdokghngiaaGreatQ16
import Derived.Laws.StructEq
import Derived.Deep.Cut
import Derived.Test.YtmpigdokghngiaaGreatQ06
import Derived.Test.YtmpigdokghngiaaGreatQ14
import Derived.Test.YtmpigdokghngiaaGreatQ03
import Derived.Test.YtmpigdokghngiaaGreatQ15

set_option maxHeartbeats 12800000
set_option maxRecDepth 100000

namespace Go.Proofs.YtmpigdokghngiaaGreat
section
open Go.RowKit
end
section
open Go.RowKit

theorem rptime_any (n:Int) (w:World) :
  Calls Tryz.prog 59 #[.int .i64 n] w fun e w' => e=.returned (.bool (pcTime n))∧w=w':=by
 unfold pcTime
 cases h1:decide (0≤n)
 ·go_enter Tryz.func59,Tryz.ntmps59
  go_wp2_with fail
  go_ret
  exact⟨rfl,rfl⟩
 ·go_enter Tryz.func59,Tryz.ntmps59
  go_wp2_with fail
  go_ret
  exact⟨rfl,rfl⟩

theorem rpmay_any (a b d e:Int) {r:Bool} (h:Hid (pcMay ⟨a,b,d,e⟩=r)) (w:World) :
  Calls Tryz.prog 35 #[.agg #[.int .i64 a,.int .i64 b,.int .i64 d,.int .i64 e]] w fun e w' => e=.returned (.bool r)∧Below w.heap.size w w':=by
 have B0:=hZq (bl_newZ w (.cells #[.int .i64 a,.int .i64 b,.int .i64 d,.int .i64 e] 23))
 have HR:=h.out
 unfold pcMay at HR
 simp only at HR
 clear h
 cases t0:decide (1≤a) with
 | false =>
  rw [t0] at HR
  obtain rfl:false=r:=HR
  go_enter Tryz.func35,Tryz.ntmps35
  go_wp2_with fail
  go_ret
  exact⟨rfl,B0.out⟩
 | true =>
  cases t1:decide (a≤16) with
  | false =>
   rw [t0,t1] at HR
   obtain rfl:false=r:=HR
   go_enter Tryz.func35,Tryz.ntmps35
   go_wp2_with fail
   go_ret
   exact⟨rfl,B0.out⟩
  | true =>
   cases t2:decide (1≤b) with
   | false =>
    rw [t0,t1,t2] at HR
    obtain rfl:false=r:=HR
    go_enter Tryz.func35,Tryz.ntmps35
    go_wp2_with fail
    go_ret
    exact⟨rfl,B0.out⟩
   | true =>
    cases t3:decide (b≤64) with
    | false =>
     rw [t0,t1,t2,t3] at HR
     obtain rfl:false=r:=HR
     go_enter Tryz.func35,Tryz.ntmps35
     go_wp2_with fail
     go_ret
     exact⟨rfl,B0.out⟩
    | true =>
     cases t4:decide (1≤d) with
     | false =>
      rw [t0,t1,t2,t3,t4] at HR
      obtain rfl:false=r:=HR
      go_enter Tryz.func35,Tryz.ntmps35
      go_wp2_with fail
      go_ret
      exact⟨rfl,B0.out⟩
     | true =>
      cases t5:decide (d≤16) with
      | false =>
       rw [t0,t1,t2,t3,t4,t5] at HR
       obtain rfl:false=r:=HR
       go_enter Tryz.func35,Tryz.ntmps35
       go_wp2_with fail
       go_ret
       exact⟨rfl,B0.out⟩
      | true =>
       cases t6:decide (1≤e) with
       | false =>
        rw [t0,t1,t2,t3,t4,t5,t6] at HR
        obtain rfl:false=r:=HR
        go_enter Tryz.func35,Tryz.ntmps35
        go_wp2_with fail
        go_ret
        exact⟨rfl,B0.out⟩
       | true =>
        cases t7:decide (e≤1000) with
        | false =>
         rw [t0,t1,t2,t3,t4,t5,t6,t7] at HR
         obtain rfl:false=r:=HR
         go_enter Tryz.func35,Tryz.ntmps35
         go_wp2_with fail
         go_ret
         exact⟨rfl,B0.out⟩
        | true =>
         rw [t0,t1,t2,t3,t4,t5,t6,t7] at HR
         obtain rfl:true=r:=HR
         go_enter Tryz.func35,Tryz.ntmps35
         go_wp2_with fail
         go_ret
         exact⟨rfl,B0.out⟩

theorem rpnew_any (a b d e now:Int) {x y:Int} {n:Nat} (h:Hid (pcNew ⟨a,b,d,e⟩ now=(⟨x,y⟩,n))) (w:World) :
  Calls Tryz.prog 66 #[.agg #[.int .i64 a,.int .i64 b,.int .i64 d,.int .i64 e],.int .i64 now] w fun e w' => e=.returned (.tuple #[.agg #[.int .i64 x,.int .i64 y],.int .i64 (n:Int)])∧Below w.heap.size w w':=by
 have HB:=hZq (below2Z (bl_newZ w (.cells #[.int .i64 a,.int .i64 b,.int .i64 d,.int .i64 e] 23)) (bl_newZ _ (.cells #[.int .i64 0,.int .i64 0] 28)))
 have K0:=hZq ((cellsAt_made (w:=w) (cs:=#[.int .i64 a,.int .i64 b,.int .i64 d,.int .i64 e]) (vs:=[.int .i64 a,.int .i64 b,.int .i64 d,.int .i64 e]) rfl 23 rfl).later (bl_newZ _ (.cells #[.int .i64 0,.int .i64 0] 28)))
 have K2:=hZq (boxR_at (w.alloc (.cells #[.int .i64 a,.int .i64 b,.int .i64 d,.int .i64 e] 23)) (B:=w.heap.size+1) (by simp))
 have FZ:=hZq (boxR_free (w.alloc (.cells #[.int .i64 a,.int .i64 b,.int .i64 d,.int .i64 e] 23)) (B:=w.heap.size+1) (by simp))
 obtain⟨q1,h1⟩ : ∃ q,pcMay ⟨a,b,d,e⟩=q:=⟨_,rfl⟩
 have H1:=hZq (rpmay_any a b d e (hZq h1))
 have H2:=hZq (rptime_any now)
 obtain⟨q2,h2⟩ : ∃ q,pcTime now=q:=⟨_,rfl⟩
 rw [h2] at H2
 have HR:=h.out
 unfold pcNew at HR
 rw [h1,h2] at HR
 clear h h1 h2
 cases q1 with
 | false =>
  simp at HR
  obtain⟨⟨rfl,rfl⟩,rfl⟩:=HR
  go_enter Tryz.func66,Tryz.ntmps66
  go_wp2_with fail
  refine (H1.out _).mono ?_
  rintro e w1 ⟨rfl,b1⟩
  have fz:=free_later (World.block_lt_of_cell? _ _ (K2.out 0 _ rfl)) FZ.out b1
  replace K0:=hZq (K0.out.later b1)
  replace K2:=hZq (K2.out.later b1)
  replace FZ:=hZq fz
  replace HB:=hZq (below2Z HB.out b1)
  clear fz b1
  obtain⟨c0,c1,c2,c3⟩:=cells4P K0.out
  obtain⟨z0,z1⟩:=cells2P K2.out
  have f0:=FZ.out 0
  have f1:=FZ.out 1
  go_wp2_with fail
  obtain⟨r0,r1⟩:=set2_get w1 (w.heap.size+1) (.int .i64 0) (.int .i64 0) z0 z1
  have hB:=set2_below HB.out (w.heap.size+1) (by omega) (.int .i64 0) (.int .i64 0)
  show bodyPost _ _ _ _ _ (setMany w1 [(⟨w.heap.size+1,0,none⟩,.int .i64 0),(⟨w.heap.size+1,1,none⟩,.int .i64 0)])
  exact bodyPost_ret (v:=.tuple #[.agg #[.int .i64 0,.int .i64 0],.int .i64 1]) (by simp [results,Tryz.results66,go_sem,r0,r1]) rfl ⟨rfl,hB⟩
 | true =>
  cases q2 with
  | false =>
   simp at HR
   obtain⟨⟨rfl,rfl⟩,rfl⟩:=HR
   go_enter Tryz.func66,Tryz.ntmps66
   go_wp2_with fail
   refine (H1.out _).mono ?_
   rintro e w1 ⟨rfl,b1⟩
   have fz:=free_later (World.block_lt_of_cell? _ _ (K2.out 0 _ rfl)) FZ.out b1
   replace K0:=hZq (K0.out.later b1)
   replace K2:=hZq (K2.out.later b1)
   replace FZ:=hZq fz
   replace HB:=hZq (below2Z HB.out b1)
   clear fz b1
   obtain⟨c0,c1,c2,c3⟩:=cells4P K0.out
   obtain⟨z0,z1⟩:=cells2P K2.out
   have f0:=FZ.out 0
   have f1:=FZ.out 1
   go_wp2_with fail
   refine (H2.out _).mono ?_
   rintro e w2 ⟨rfl,rfl⟩
   go_wp2_with fail
   obtain⟨r0,r1⟩:=set2_get w1 (w.heap.size+1) (.int .i64 0) (.int .i64 0) z0 z1
   have hB:=set2_below HB.out (w.heap.size+1) (by omega) (.int .i64 0) (.int .i64 0)
   show bodyPost _ _ _ _ _ (setMany w1 [(⟨w.heap.size+1,0,none⟩,.int .i64 0),(⟨w.heap.size+1,1,none⟩,.int .i64 0)])
   exact bodyPost_ret (v:=.tuple #[.agg #[.int .i64 0,.int .i64 0],.int .i64 1]) (by simp [results,Tryz.results66,go_sem,r0,r1]) rfl ⟨rfl,hB⟩
  | true =>
   simp at HR
   obtain⟨⟨rfl,rfl⟩,rfl⟩:=HR
   go_enter Tryz.func66,Tryz.ntmps66
   go_wp2_with fail
   refine (H1.out _).mono ?_
   rintro e w1 ⟨rfl,b1⟩
   have fz:=free_later (World.block_lt_of_cell? _ _ (K2.out 0 _ rfl)) FZ.out b1
   replace K0:=hZq (K0.out.later b1)
   replace K2:=hZq (K2.out.later b1)
   replace FZ:=hZq fz
   replace HB:=hZq (below2Z HB.out b1)
   clear fz b1
   obtain⟨c0,c1,c2,c3⟩:=cells4P K0.out
   obtain⟨z0,z1⟩:=cells2P K2.out
   have f0:=FZ.out 0
   have f1:=FZ.out 1
   go_wp2_with fail
   refine (H2.out _).mono ?_
   rintro e w2 ⟨rfl,rfl⟩
   go_wp2_with fail
   obtain⟨r0,r1⟩:=set2_get w1 (w.heap.size+1) (.int .i64 b) (.int .i64 now) z0 z1
   have hB:=set2_below HB.out (w.heap.size+1) (by omega) (.int .i64 b) (.int .i64 now)
   show bodyPost _ _ _ _ _ (setMany w1 [(⟨w.heap.size+1,0,none⟩,.int .i64 b),(⟨w.heap.size+1,1,none⟩,.int .i64 now)])
   exact bodyPost_ret (v:=.tuple #[.agg #[.int .i64 b,.int .i64 now],.int .i64 0]) (by simp [results,Tryz.results66,go_sem,r0,r1]) rfl ⟨rfl,hB⟩

theorem pcOne_split (a b d e tok at':Int):pcOne ⟨a,b,d,e⟩ ⟨tok,at'⟩=(pcMay ⟨a,b,d,e⟩ && (decide (0≤tok) && (decide (tok≤b) && pcTime at'))):=rfl

theorem rpone_any (a b d e tok at':Int) {r:Bool} (h:Hid (pcOne ⟨a,b,d,e⟩ ⟨tok,at'⟩=r)) (w:World) :
  Calls Tryz.prog 57 #[.agg #[.int .i64 a,.int .i64 b,.int .i64 d,.int .i64 e],.agg #[.int .i64 tok,.int .i64 at']] w fun e w' => e=.returned (.bool r)∧Below w.heap.size w w':=by
 have HB:=hZq (boxes_below w a b d e tok at')
 have K0:=hZq (boxes_cfg w a b d e tok at')
 have K1:=hZq (boxes_bkt w a b d e tok at')
 have HR:=h.out
 rw [pcOne_split] at HR
 obtain⟨q1,h1⟩ : ∃ q,pcMay ⟨a,b,d,e⟩=q:=⟨_,rfl⟩
 have H1:=hZq (rpmay_any a b d e (hZq h1))
 have H2:=hZq (rptime_any at')
 obtain⟨q2,h2⟩ : ∃ q,pcTime at'=q:=⟨_,rfl⟩
 rw [h2] at H2 HR
 rw [h1] at HR
 clear h h1 h2
 cases q1 with
 | false =>
  obtain rfl:false=r:=HR
  go_enter Tryz.func57,Tryz.ntmps57
  go_wp2_with fail
  refine (H1.out _).mono ?_
  rintro e w1 ⟨rfl,b1⟩
  replace K0:=hZq (K0.out.later b1)
  replace K1:=hZq (K1.out.later b1)
  replace HB:=hZq (below2Z HB.out b1)
  obtain⟨c0,c1,c2,c3⟩:=cells4P K0.out
  obtain⟨d0,d1⟩:=cells2P K1.out
  clear b1
  go_wp2_with fail
  go_ret
  exact⟨rfl,HB.out⟩
 | true =>
  cases t1:decide (0≤tok) with
  | false =>
   rw [t1] at HR
   obtain rfl:false=r:=HR
   go_enter Tryz.func57,Tryz.ntmps57
   go_wp2_with fail
   refine (H1.out _).mono ?_
   rintro e w1 ⟨rfl,b1⟩
   replace K0:=hZq (K0.out.later b1)
   replace K1:=hZq (K1.out.later b1)
   replace HB:=hZq (below2Z HB.out b1)
   obtain⟨c0,c1,c2,c3⟩:=cells4P K0.out
   obtain⟨d0,d1⟩:=cells2P K1.out
   clear b1
   go_wp2_with fail
   go_ret
   exact⟨rfl,HB.out⟩
  | true =>
   cases t2:decide (tok≤b) with
   | false =>
    rw [t1,t2] at HR
    obtain rfl:false=r:=HR
    go_enter Tryz.func57,Tryz.ntmps57
    go_wp2_with fail
    refine (H1.out _).mono ?_
    rintro e w1 ⟨rfl,b1⟩
    replace K0:=hZq (K0.out.later b1)
    replace K1:=hZq (K1.out.later b1)
    replace HB:=hZq (below2Z HB.out b1)
    obtain⟨c0,c1,c2,c3⟩:=cells4P K0.out
    obtain⟨d0,d1⟩:=cells2P K1.out
    clear b1
    go_wp2_with fail
    go_ret
    exact⟨rfl,HB.out⟩
   | true =>
    rw [t1,t2] at HR
    replace HR:q2=r:=by rw [← HR]; rfl
    subst HR
    go_enter Tryz.func57,Tryz.ntmps57
    go_wp2_with fail
    refine (H1.out _).mono ?_
    rintro e w1 ⟨rfl,b1⟩
    replace K0:=hZq (K0.out.later b1)
    replace K1:=hZq (K1.out.later b1)
    replace HB:=hZq (below2Z HB.out b1)
    obtain⟨c0,c1,c2,c3⟩:=cells4P K0.out
    obtain⟨d0,d1⟩:=cells2P K1.out
    clear b1
    go_wp2_with fail
    refine (H2.out _).mono ?_
    rintro e w2 ⟨rfl,rfl⟩
    go_wp2_with fail
    go_ret
    exact⟨rfl,HB.out⟩
end
section
open Go.RowKit

set_option linter.unusedSimpArgs false

theorem rlnew_a (ca cb cd ce now:Int) {bx bt:Int} (hr:Hid (pcNew ⟨ca,cb,cd,ce⟩ now=(⟨bx,bt⟩,0))) (w:World) :
  Calls Tryz.prog 38 #[.agg #[.int .i64 ca,.int .i64 cb,.int .i64 cd,.int .i64 ce],.int .i64 now] w fun e w' => e=.returned (.tuple #[.agg #[.int .i64 0,.slice none 0 0,.bool false,.int .i64 bx,.int .i64 bt,.bool true,.int .i64 now],.int .i64 0])∧Below w.heap.size w w':=by
 have HR:=hr
 obtain⟨CB,RB,HB⟩:=ent2 w (.cells #[.int .i64 ca,.int .i64 cb,.int .i64 cd,.int .i64 ce] 23) (.cells #[.int .i64 0,.slice none 0 0,.bool false,.int .i64 0,.int .i64 0,.bool false,.int .i64 0] 30)
 clear hr
 have CBo:=blk4 CB.out
 have RBo:=blk7 RB.out
 go_enter Tryz.func38,Tryz.ntmps38
 go_wp2_with fail
 clear CBo RBo
 refine (rpnew_any ca cb cd ce now HR _).mono ?_
 rintro e w3 ⟨rfl,b3⟩
 replace CB:=hZq (upQ CB.out b3)
 replace RB:=hZq (upQ RB.out b3)
 replace HB:=hZq (below2Z HB.out b3)
 clear b3
 have b4:=bl_newZ w3 (.cells #[.int .i64 bx,.int .i64 bt] 28)
 have BB:=newQ w3 (.cells #[.int .i64 bx,.int .i64 bt] 28)
 have hBB:w.heap.size≤w3.heap.size:=HB.out.size
 replace CB:=hZq (upQ CB.out b4)
 replace RB:=hZq (upQ RB.out b4)
 replace HB:=hZq (below2Z HB.out b4)
 clear b4
 replace BB:=hZq BB
 go_upto_region 2 with fail
 generalize w3.alloc (.cells #[.int .i64 bx,.int .i64 bt] 28)=w5 at CB RB BB HB ⊢
 have CBo:=blk4 CB.out
 have RBo:=blk7 RB.out
 have BBo:=blk2 BB.out
 have hle:w.heap.size≤w.heap.size+1:=by omega
 go_wp2_with fail
 have hz:=stN7_heap RB.out (.int .i64 0) (.slice none 0 0) (.bool false) (.int .i64 bx) (.int .i64 bt) (.bool true) (.int .i64 now)
 obtain⟨⟨z0,z1,z2,z3,z4,z5,z6⟩,-⟩:=blk7 hz
 unfold stN7 at z0 z1 z2 z3 z4 z5 z6
 refine bodyPost_ret (v:=.tuple #[.agg #[.int .i64 0,.slice none 0 0,.bool false,.int .i64 bx,.int .i64 bt,.bool true,.int .i64 now],.int .i64 0]) (by simp [results,Tryz.results38,go_sem,z0,z1,z2,z3,z4,z5,z6]) rfl ⟨rfl,?_⟩
 exact ((((((HB.out.setCell hle _).setCell hle _).setCell hle _).setCell hle _).setCell hle _).setCell hle _).setCell hle _

theorem rlnew_b (ca cb cd ce now:Int) {bx bt:Int} {n:Nat} (hn:0 < n) (hr:Hid (pcNew ⟨ca,cb,cd,ce⟩ now=(⟨bx,bt⟩,n))) (w:World) :
  Calls Tryz.prog 38 #[.agg #[.int .i64 ca,.int .i64 cb,.int .i64 cd,.int .i64 ce],.int .i64 now] w fun e w' => e=.returned (.tuple #[.agg #[.int .i64 0,.slice none 0 0,.bool false,.int .i64 0,.int .i64 0,.bool false,.int .i64 0],.int .i64 n])∧Below w.heap.size w w':=by
 have HR:=hr
 obtain⟨CB,RB,HB⟩:=ent2 w (.cells #[.int .i64 ca,.int .i64 cb,.int .i64 cd,.int .i64 ce] 23) (.cells #[.int .i64 0,.slice none 0 0,.bool false,.int .i64 0,.int .i64 0,.bool false,.int .i64 0] 30)
 clear hr
 have CBo:=blk4 CB.out
 have RBo:=blk7 RB.out
 go_enter Tryz.func38,Tryz.ntmps38
 go_wp2_with fail
 clear CBo RBo
 refine (rpnew_any ca cb cd ce now HR _).mono ?_
 rintro e w3 ⟨rfl,b3⟩
 replace CB:=hZq (upQ CB.out b3)
 replace RB:=hZq (upQ RB.out b3)
 replace HB:=hZq (below2Z HB.out b3)
 clear b3
 have b4:=bl_newZ w3 (.cells #[.int .i64 bx,.int .i64 bt] 28)
 have BB:=newQ w3 (.cells #[.int .i64 bx,.int .i64 bt] 28)
 have hBB:w.heap.size≤w3.heap.size:=HB.out.size
 replace CB:=hZq (upQ CB.out b4)
 replace RB:=hZq (upQ RB.out b4)
 replace HB:=hZq (below2Z HB.out b4)
 clear b4
 replace BB:=hZq BB
 go_upto_region 2 with fail
 generalize w3.alloc (.cells #[.int .i64 bx,.int .i64 bt] 28)=w5 at CB RB BB HB ⊢
 have CBo:=blk4 CB.out
 have RBo:=blk7 RB.out
 have BBo:=blk2 BB.out
 have hle:w.heap.size≤w.heap.size+1:=by omega
 have t1:((n:Int) != 0)=true:=by rw [bne_iff_ne]; omega
 go_wp2_with fail
 have hz:=stN7_heap RB.out (.int .i64 0) (.slice none 0 0) (.bool false) (.int .i64 0) (.int .i64 0) (.bool false) (.int .i64 0)
 obtain⟨⟨z0,z1,z2,z3,z4,z5,z6⟩,-⟩:=blk7 hz
 unfold stN7 at z0 z1 z2 z3 z4 z5 z6
 refine bodyPost_ret (v:=.tuple #[.agg #[.int .i64 0,.slice none 0 0,.bool false,.int .i64 0,.int .i64 0,.bool false,.int .i64 0],.int .i64 n]) (by simp [results,Tryz.results38,go_sem,z0,z1,z2,z3,z4,z5,z6]) rfl ⟨rfl,?_⟩
 exact ((((((HB.out.setCell hle _).setCell hle _).setCell hle _).setCell hle _).setCell hle _).setCell hle _).setCell hle _

theorem rlnew_any (ca cb cd ce now:Int) {m:Lnk} {n:Nat} (hr:Hid (lnNew ⟨ca,cb,cd,ce⟩ now=(m,n))) (w:World) :
  Calls Tryz.prog 38 #[.agg #[.int .i64 ca,.int .i64 cb,.int .i64 cd,.int .i64 ce],.int .i64 now] w fun e w' => e=.returned (.tuple #[.agg #[.int .i64 m.seq,.slice none 0 0,.bool m.q.la,.int .i64 m.b.tok,.int .i64 m.b.at',.bool m.sn,.int .i64 m.dg],.int .i64 n])∧m.q.l=[]∧Below w.heap.size w w':=by
 have hr:=hr.out
 obtain⟨⟨⟨bx,bt⟩,k⟩,hk⟩ : ∃ p,pcNew ⟨ca,cb,cd,ce⟩ now=p:=⟨_,rfl⟩
 unfold lnNew at hr
 rw [hk] at hr
 cases k with
 | zero =>
  rw [if_pos rfl] at hr
  cases hr
  exact (rlnew_a ca cb cd ce now (hZq hk) w).mono fun e w' ⟨h1,h2⟩ => ⟨h1,rfl,h2⟩
 | succ k =>
  rw [if_neg (by simp)] at hr
  cases hr
  exact (rlnew_b ca cb cd ce now (Nat.succ_pos k) (hZq hk) w).mono fun e w' ⟨h1,h2⟩ => ⟨h1,rfl,h2⟩

theorem rlfew_any {w:World} {v:Value} {l:List Chg} (hv:Chgs w v l) (la sn:Bool) (seq tok at' dg:Int) {r:Bool} (hr:Hid (fewC l 30=r)) :
  Calls Tryz.prog 22 #[.agg #[.int .i64 seq,v,.bool la,.int .i64 tok,.int .i64 at',.bool sn,.int .i64 dg]] w fun e w' => e=.returned (.bool r)∧Below w.heap.size w w':=by
 obtain⟨n,hn⟩ : ∃ n,l.length=n:=⟨_,rfl⟩
 obtain⟨ao,cap,rfl⟩:=chgs_shape hv hn
 obtain⟨LB,HB⟩:=ent1 w (.cells #[.int .i64 seq,.slice ao n cap,.bool la,.int .i64 tok,.int .i64 at',.bool sn,.int .i64 dg] 30)
 have V:=hZq (hv.later HB.out)
 have HR:=hr
 clear hv hn hr
 have LBo:=blk7 LB.out
 go_enter Tryz.func22,Tryz.ntmps22
 go_wp2_with fail
 clear LBo
 refine (fewq_any V.out la HR).mono ?_
 rintro e w2 ⟨rfl,b2⟩
 replace LB:=hZq (upQ LB.out b2)
 replace V:=hZq (V.out.later b2)
 replace HB:=hZq (below2Z HB.out b2)
 clear b2
 go_wp2_with fail
 go_ret
 exact⟨rfl,HB.out⟩

theorem bkt_eqInL (d:Nat) (a b a' b':Int) (w:World) :
  (Op.equalIn (d+1+1) 28 (.agg #[.int .i64 a,.int .i64 b]) (.agg #[.int .i64 a',.int .i64 b'])).run Tryz.prog w=.ok (decide (a=a') && decide (b=b')) w:=by
 have hS:Tryz.prog.underlying 28=some (.struct (Tryz.prog.fieldsOf 28)):=by kernel_rfl
 have hp:Tryz.prog.stoodInHeld 28=false:=by kernel_rfl
 have u3:=Tryz.underlying3
 have a3:=Tryz.isAgg3
 have z3:=Tryz.sizeOf3
 rw [run_equalIn_agg w (d+1) 28 _ _ hS hp]
 simp only [Program.fieldsOf,Tryz.underlying28]
 go_simp
 by_cases h1:a=a' <;> by_cases h2:b=b' <;> simp [h1,h2]

theorem bkt_eqlL (a b a' b':Int) {r:Bool} (h:(decide (a=a') && decide (b=b'))=r):∀ w,(binOp .eql 28 (.agg #[.int .i64 a,.int .i64 b]) (.agg #[.int .i64 a',.int .i64 b'])).run Tryz.prog w=.ok (.bool r) w:=fun w => by
 rw [run_eql_struct,show (10000:Nat)=9998+1+1 from rfl,bkt_eqInL 9998,h]
 rfl

theorem bool_eqlL (q:Bool):(q == q)=true:=by cases q <;> rfl

theorem rlsame_yes {w:World} {v u:Value} {l:List Chg} (hv:Chgs w v l) (hu:Chgs w u l) (la sn:Bool) (seq tok at' dg:Int) :
  Calls Tryz.prog 27 #[.agg #[.int .i64 seq,v,.bool la,.int .i64 tok,.int .i64 at',.bool sn,.int .i64 dg],.agg #[.int .i64 seq,u,.bool la,.int .i64 tok,.int .i64 at',.bool sn,.int .i64 dg]] w fun e w' => e=.returned (.bool true)∧Below w.heap.size w w':=by
 obtain⟨n,hn⟩ : ∃ n,l.length=n:=⟨_,rfl⟩
 obtain⟨ao,cap,rfl⟩:=chgs_shape hv hn
 obtain⟨ao2,cap2,rfl⟩:=chgs_shape hu hn
 obtain⟨LB,MB,HB⟩:=ent2 w (.cells #[.int .i64 seq,.slice ao n cap,.bool la,.int .i64 tok,.int .i64 at',.bool sn,.int .i64 dg] 30) (.cells #[.int .i64 seq,.slice ao2 n cap2,.bool la,.int .i64 tok,.int .i64 at',.bool sn,.int .i64 dg] 30)
 have V:=hZq (hv.later HB.out)
 have U:=hZq (hu.later HB.out)
 clear hv hu hn
 have e1:=bkt_eqlL tok at' tok at' (r:=true) (by simp)
 have e2:=bool_eqlL la
 have e3:=bool_eqlL sn
 have LBo:=blk7 LB.out
 have MBo:=blk7 MB.out
 go_enter Tryz.func27,Tryz.ntmps27
 go_wp2_with fail
 clear LBo MBo
 refine (qusame_any V.out U.out la la (hZq (quSame_self _))).mono ?_
 rintro e w3 ⟨rfl,b3⟩
 replace LB:=hZq (upQ LB.out b3)
 replace MB:=hZq (upQ MB.out b3)
 replace V:=hZq (V.out.later b3)
 replace U:=hZq (U.out.later b3)
 replace HB:=hZq (below2Z HB.out b3)
 clear b3
 have LBo:=blk7 LB.out
 have MBo:=blk7 MB.out
 go_wp2_with fail
 go_ret
 exact⟨rfl,HB.out⟩

theorem rlmay_any {w:World} {v:Value} {l:List Chg} (hv:Chgs w v l) (hs:ShortC l) (hl:l.length≤100) (la sn:Bool) (seq tok at' dg ca cb cd ce:Int) {r:Bool} (hr:Hid (lnMay ⟨ca,cb,cd,ce⟩ ⟨seq,⟨l,la⟩,⟨tok,at'⟩,sn,dg⟩=r)) :
  Calls Tryz.prog 28 #[.agg #[.int .i64 ca,.int .i64 cb,.int .i64 cd,.int .i64 ce],.agg #[.int .i64 seq,v,.bool la,.int .i64 tok,.int .i64 at',.bool sn,.int .i64 dg]] w fun e w' => e=.returned (.bool r)∧Below w.heap.size w w':=by
 obtain⟨n,hn⟩ : ∃ n,l.length=n:=⟨_,rfl⟩
 obtain⟨ao,cap,rfl⟩:=chgs_shape hv hn
 have HS:=hZq hs
 obtain⟨m0,h0⟩ : ∃ m,pcOne ⟨ca,cb,cd,ce⟩ ⟨tok,at'⟩=m:=⟨_,rfl⟩
 obtain⟨m1,h1⟩ : ∃ m,decide (0≤seq)=m:=⟨_,rfl⟩
 obtain⟨m2,h2⟩ : ∃ m,decide (seq≤1099511627776)=m:=⟨_,rfl⟩
 obtain⟨m3,h3⟩ : ∃ m,quMay ⟨l,la⟩ ca=m:=⟨_,rfl⟩
 obtain⟨m4,h4⟩ : ∃ m,pcTime dg=m:=⟨_,rfl⟩
 obtain⟨m5,h5⟩ : ∃ m,decide (l=[])=m:=⟨_,rfl⟩
 have hr:=hr.out
 unfold lnMay at hr
 simp only at hr
 rw [h0,h1,h2,h3,h4,h5] at hr
 subst hr
 have H0:=hZq h0
 have H3:=hZq h3
 have H4:=hZq h4
 clear hs h0 h3 h4
 have t1:decide (seq < 0)=!m1:=by rw [← h1]; by_cases h:0≤seq <;> simp [h] <;> omega
 have t2:decide (1099511627776 < seq)=!m2:=by rw [← h2]; by_cases h:seq≤1099511627776 <;> simp [h] <;> omega
 have t3:((n:Int) == 0)=m5:=by rw [← h5,← hn]; cases l <;> simp <;> omega
 have t4:(n == 0)=m5:=by rw [← h5,← hn]; cases l <;> simp
 clear h1 h2 h5
 obtain⟨CB,LB,HB⟩:=ent2 w (.cells #[.int .i64 ca,.int .i64 cb,.int .i64 cd,.int .i64 ce] 23) (.cells #[.int .i64 seq,.slice ao n cap,.bool la,.int .i64 tok,.int .i64 at',.bool sn,.int .i64 dg] 30)
 have V:=hZq (hv.later HB.out)
 clear hv hn
 have CBo:=blk4 CB.out
 have LBo:=blk7 LB.out
 go_enter Tryz.func28,Tryz.ntmps28
 go_wp2_with fail
 clear CBo LBo
 refine (rpone_any ca cb cd ce tok at' H0 _).mono ?_
 rintro e w3 ⟨rfl,b3⟩
 replace CB:=hZq (upQ CB.out b3)
 replace LB:=hZq (upQ LB.out b3)
 replace V:=hZq (V.out.later b3)
 replace HB:=hZq (below2Z HB.out b3)
 clear b3
 cases m0 with
 | false =>
  have CBo:=blk4 CB.out
  have LBo:=blk7 LB.out
  go_wp2_with fail
  go_ret
  exact⟨rfl,HB.out⟩
 | true =>
  cases m1 with
  | false =>
   have CBo:=blk4 CB.out
   have LBo:=blk7 LB.out
   go_wp2_with fail
   go_ret
   exact⟨rfl,HB.out⟩
  | true =>
   cases m2 with
   | false =>
    have CBo:=blk4 CB.out
    have LBo:=blk7 LB.out
    go_wp2_with fail
    go_ret
    exact⟨rfl,HB.out⟩
   | true =>
    have CBo:=blk4 CB.out
    have LBo:=blk7 LB.out
    go_wp2_with fail
    clear CBo LBo
    refine (rqumay_any V.out HS.out hl la H3).mono ?_
    rintro e w4 ⟨rfl,b4⟩
    replace CB:=hZq (upQ CB.out b4)
    replace LB:=hZq (upQ LB.out b4)
    replace V:=hZq (V.out.later b4)
    replace HB:=hZq (below2Z HB.out b4)
    clear b4
    cases m3 with
    | false =>
     have CBo:=blk4 CB.out
     have LBo:=blk7 LB.out
     go_wp2_with fail
     go_ret
     exact⟨rfl,HB.out⟩
    | true =>
     cases la with
     | true =>
      have CBo:=blk4 CB.out
      have LBo:=blk7 LB.out
      go_wp2_with fail
      go_ret
      exact⟨rfl,HB.out⟩
     | false =>
      have CBo:=blk4 CB.out
      have LBo:=blk7 LB.out
      go_wp2_with fail
      refine (rptime_any dg _).mono ?_
      rintro e w95 ⟨rfl,rfl⟩
      rw [H4.out]
      clear CBo LBo
      cases m4 with
      | false =>
       have CBo:=blk4 CB.out
       have LBo:=blk7 LB.out
       go_wp2_with fail
       go_ret
       exact⟨rfl,HB.out⟩
      | true =>
       cases sn with
       | false =>
        have CBo:=blk4 CB.out
        have LBo:=blk7 LB.out
        go_wp2_with fail
        go_ret
        exact⟨rfl,HB.out⟩
       | true =>
        cases m5 with
        | false =>
         have CBo:=blk4 CB.out
         have LBo:=blk7 LB.out
         go_wp2_with fail
         go_ret
         exact⟨rfl,HB.out⟩
        | true =>
         have CBo:=blk4 CB.out
         have LBo:=blk7 LB.out
         go_wp2_with fail
         go_ret
         exact⟨rfl,HB.out⟩
end
section
open Go.RowKit
end
section
open Go.RowKit

def fewF (f:Frm):Bool:=fewT f.t && (decide (f.c.length≤60) && decide (f.v.st.length≤100))
end
section
open Go.RowKit

theorem clfew_eq {w:World} {v:Value} {t:List Row} (hv:Tab w v t) (n:Int) (o:Bool) {r:Bool} (h:Hid (fewT t=r)) :
  Calls Tryz.prog 37 #[.agg #[v,.int .i64 n,.bool o]] w fun e w' => e=.returned (.bool r)∧Below w.heap.size w w':=by
 obtain⟨ca,cc,rfl,-⟩:=hv.open'
 obtain⟨CB,HB⟩:=ent1 w (.cells #[.slice ca t.length cc,.int .i64 n,.bool o] 33)
 have VA:=hZq (hv.later HB.out)
 clear hv
 go_enter Tryz.func37,Tryz.ntmps37
 have CBo:=blk3 CB.out
 go_wp2_with fail
 clear CBo
 refine (fewt_eq VA.out h).mono ?_
 rintro e w' ⟨rfl,rfl⟩
 go_wp2_with fail
 go_ret
 exact⟨rfl,HB.out⟩

theorem rclsame_t {w:World} {v1 v2:Value} {t1 t2:List Row} (hv1:Tab w v1 t1) (hv2:Tab w v2 t2) (n1 n2:Int) (o1 o2:Bool) (HR:Hid (tSame t1 t2=false))  :
  Calls Tryz.prog 36 #[.agg #[v1,.int .i64 n1,.bool o1],.agg #[v2,.int .i64 n2,.bool o2]] w fun e w' => e=.returned (.bool false)∧Below w.heap.size w w':=by
 obtain⟨va,ca,rfl,-⟩:=hv1.open'
 obtain⟨vb,cb,rfl,-⟩:=hv2.open'
 obtain⟨CA,CB,HB⟩:=ent2 w (.cells #[.slice va t1.length ca,.int .i64 n1,.bool o1] 33) (.cells #[.slice vb t2.length cb,.int .i64 n2,.bool o2] 33)
 have VA:=hZq (hv1.later HB.out)
 have VB:=hZq (hv2.later HB.out)
 clear hv1 hv2
 go_enter Tryz.func36,Tryz.ntmps36
 have CAo:=blk3 CA.out
 have CBo:=blk3 CB.out
 go_wp2_with fail
 clear CAo CBo
 refine (tsame_eq VA.out VB.out HR).mono ?_
 rintro e w3 ⟨rfl,b3⟩
 replace CA:=hZq (upQ CA.out b3)
 replace CB:=hZq (upQ CB.out b3)
 replace VA:=hZq (VA.out.later b3)
 replace VB:=hZq (VB.out.later b3)
 replace HB:=hZq (below2Z HB.out b3)
 clear b3
 have CAo:=blk3 CA.out
 have CBo:=blk3 CB.out
 go_wp2_with fail
 clear CAo CBo
 go_ret
 exact⟨rfl,HB.out⟩

theorem rclsame_a {w:World} {v1 v2:Value} {t1 t2:List Row} (hv1:Tab w v1 t1) (hv2:Tab w v2 t2) (n1 n2:Int) (o1 o2:Bool) (HR:Hid (tSame t1 t2=true)) (h:¬ n1=n2) :
  Calls Tryz.prog 36 #[.agg #[v1,.int .i64 n1,.bool o1],.agg #[v2,.int .i64 n2,.bool o2]] w fun e w' => e=.returned (.bool false)∧Below w.heap.size w w':=by
 have g1:(n1 == n2)=false:=by rw [beq_eq_false_iff_ne]; exact h
 clear h
 obtain⟨va,ca,rfl,-⟩:=hv1.open'
 obtain⟨vb,cb,rfl,-⟩:=hv2.open'
 obtain⟨CA,CB,HB⟩:=ent2 w (.cells #[.slice va t1.length ca,.int .i64 n1,.bool o1] 33) (.cells #[.slice vb t2.length cb,.int .i64 n2,.bool o2] 33)
 have VA:=hZq (hv1.later HB.out)
 have VB:=hZq (hv2.later HB.out)
 clear hv1 hv2
 go_enter Tryz.func36,Tryz.ntmps36
 have CAo:=blk3 CA.out
 have CBo:=blk3 CB.out
 go_wp2_with fail
 clear CAo CBo
 refine (tsame_eq VA.out VB.out HR).mono ?_
 rintro e w3 ⟨rfl,b3⟩
 replace CA:=hZq (upQ CA.out b3)
 replace CB:=hZq (upQ CB.out b3)
 replace VA:=hZq (VA.out.later b3)
 replace VB:=hZq (VB.out.later b3)
 replace HB:=hZq (below2Z HB.out b3)
 clear b3
 have CAo:=blk3 CA.out
 have CBo:=blk3 CB.out
 go_wp2_with fail
 clear CAo CBo
 go_ret
 exact⟨rfl,HB.out⟩

theorem rclsame_b {w:World} {v1 v2:Value} {t1 t2:List Row} (hv1:Tab w v1 t1) (hv2:Tab w v2 t2) (n1 n2:Int) (o1 o2:Bool) (HR:Hid (tSame t1 t2=true)) (h:n1=n2) {r:Bool} (h2:(o1 == o2)=r) :
  Calls Tryz.prog 36 #[.agg #[v1,.int .i64 n1,.bool o1],.agg #[v2,.int .i64 n2,.bool o2]] w fun e w' => e=.returned (.bool r)∧Below w.heap.size w w':=by
 have g1:(n1 == n2)=true:=by rw [beq_iff_eq]; exact h
 clear h
 have g2:(o1 == o2)=r:=h2
 clear h2
 obtain⟨va,ca,rfl,-⟩:=hv1.open'
 obtain⟨vb,cb,rfl,-⟩:=hv2.open'
 obtain⟨CA,CB,HB⟩:=ent2 w (.cells #[.slice va t1.length ca,.int .i64 n1,.bool o1] 33) (.cells #[.slice vb t2.length cb,.int .i64 n2,.bool o2] 33)
 have VA:=hZq (hv1.later HB.out)
 have VB:=hZq (hv2.later HB.out)
 clear hv1 hv2
 go_enter Tryz.func36,Tryz.ntmps36
 have CAo:=blk3 CA.out
 have CBo:=blk3 CB.out
 go_wp2_with fail
 clear CAo CBo
 refine (tsame_eq VA.out VB.out HR).mono ?_
 rintro e w3 ⟨rfl,b3⟩
 replace CA:=hZq (upQ CA.out b3)
 replace CB:=hZq (upQ CB.out b3)
 replace VA:=hZq (VA.out.later b3)
 replace VB:=hZq (VB.out.later b3)
 replace HB:=hZq (below2Z HB.out b3)
 clear b3
 have CAo:=blk3 CA.out
 have CBo:=blk3 CB.out
 go_wp2_with fail
 clear CAo CBo
 go_ret
 exact⟨rfl,HB.out⟩

theorem rclsame_eq {w:World} {v1 v2:Value} {t1 t2:List Row} (hv1:Tab w v1 t1) (hv2:Tab w v2 t2) (n1 n2:Int) (o1 o2:Bool) {r:Bool} (h:Hid (clSame ⟨t1,n1,o1⟩ ⟨t2,n2,o2⟩=r)) :
  Calls Tryz.prog 36 #[.agg #[v1,.int .i64 n1,.bool o1],.agg #[v2,.int .i64 n2,.bool o2]] w fun e w' => e=.returned (.bool r)∧Below w.heap.size w w':=by
 have h:=h.out
 unfold clSame at h
 simp only at h
 cases ht:tSame t1 t2 with
 | false =>
  rw [ht,Bool.and_false,Bool.and_false] at h
  subst h
  exact rclsame_t hv1 hv2 n1 n2 o1 o2 (hZq ht)
 | true =>
  by_cases h1:n1=n2
  ·rw [ht,show decide (n1=n2)=true from decide_eq_true h1,Bool.and_true,Bool.true_and] at h
   exact rclsame_b hv1 hv2 n1 n2 o1 o2 (hZq ht) h1 h
  ·rw [show decide (n1=n2)=false from decide_eq_false h1,Bool.false_and] at h
   subst h
   exact rclsame_a hv1 hv2 n1 n2 o1 o2 (hZq ht) h1
end
section
open Go.RowKit

theorem rpbound_t {ca cb cd ce:Int} (H:Hid (pcMay ⟨ca,cb,cd,ce⟩=true)) (w:World) :
  Calls Tryz.prog 20 #[.agg #[.int .i64 ca,.int .i64 cb,.int .i64 cd,.int .i64 ce]] w fun e w' => e=.returned (.int .i64 (ca+ce+2))∧Below w.heap.size w w':=by
 obtain⟨GB,HB⟩:=ent1 w (.cells #[.int .i64 ca,.int .i64 cb,.int .i64 cd,.int .i64 ce] 23)
 have hp:=pcMay_iff.1 H.out
 simp only at hp
 obtain⟨h1,h2,-,-,-,-,h3,h4⟩:=hp
 have e1:IntKind.i64.wrap (ca+ce)=ca+ce:=IntWalk.i64_in _ (by omega)
 have e2:IntKind.i64.wrap (ca+ce+2)=ca+ce+2:=IntWalk.i64_in _ (by omega)
 clear h1 h2 h3 h4
 go_enter Tryz.func20,Tryz.ntmps20
 have GBo:=blk4 GB.out
 go_wp2_with fail
 clear GBo
 refine (pmay_any ca cb cd ce H _).mono ?_
 rintro e w2 ⟨rfl,b2⟩
 replace GB:=hZq (upQ GB.out b2)
 replace HB:=hZq (below2Z HB.out b2)
 clear b2
 have GBo:=blk4 GB.out
 go_wp2_with fail
 clear GBo
 go_ret
 exact⟨rfl,HB.out⟩

theorem rpbound_f {ca cb cd ce:Int} (H:Hid (pcMay ⟨ca,cb,cd,ce⟩=false)) (w:World) :
  Calls Tryz.prog 20 #[.agg #[.int .i64 ca,.int .i64 cb,.int .i64 cd,.int .i64 ce]] w fun e w' => e=.returned (.int .i64 (0))∧Below w.heap.size w w':=by
 obtain⟨GB,HB⟩:=ent1 w (.cells #[.int .i64 ca,.int .i64 cb,.int .i64 cd,.int .i64 ce] 23)
 go_enter Tryz.func20,Tryz.ntmps20
 have GBo:=blk4 GB.out
 go_wp2_with fail
 clear GBo
 refine (pmay_any ca cb cd ce H _).mono ?_
 rintro e w2 ⟨rfl,b2⟩
 replace GB:=hZq (upQ GB.out b2)
 replace HB:=hZq (below2Z HB.out b2)
 clear b2
 go_wp2_with fail
 go_ret
 exact⟨rfl,HB.out⟩

theorem rpbound_any (ca cb cd ce:Int) (w:World) :
  Calls Tryz.prog 20 #[.agg #[.int .i64 ca,.int .i64 cb,.int .i64 cd,.int .i64 ce]] w fun e w' => e=.returned (.int .i64 (rpBound ⟨ca,cb,cd,ce⟩))∧Below w.heap.size w w':=by
 unfold rpBound
 cases h:pcMay ⟨ca,cb,cd,ce⟩ with
 | true => rw [if_pos rfl]; exact rpbound_t (hZq h) w
 | false => rw [if_neg (by decide)]; exact rpbound_f (hZq h) w

theorem rpsync_f {w:World} {v cv vv:Value} {ql:List Chg} {ct view:List Row} {seq tok at' dg nn:Int} {la sn oo:Bool} (hv:Chgs w v ql) (hc:Tab w cv ct) (hw:Tab w vv view) (HQ:Hid (lnQuiet ⟨seq,⟨ql,la⟩,⟨tok,at'⟩,sn,dg⟩=false)) :
  Calls Tryz.prog 18 #[.agg #[.int .i64 seq,v,.bool la,.int .i64 tok,.int .i64 at',.bool sn,.int .i64 dg,cv,.int .i64 nn,.bool oo],vv] w fun e w' => e=.returned (.bool false)∧Below w.heap.size w w':=by
 obtain⟨qa,qc,rfl,-⟩:=hv.open'
 obtain⟨ta,tc,rfl,-⟩:=hc.open'
 obtain⟨va,vc,rfl,-⟩:=hw.open'
 obtain⟨XB,HB⟩:=ent1 w (.cells #[.int .i64 seq,.slice qa ql.length qc,.bool la,.int .i64 tok,.int .i64 at',.bool sn,.int .i64 dg,.slice ta ct.length tc,.int .i64 nn,.bool oo] 41)
 have HV:=hZq ((hv).later HB.out)
 clear hv hc hw
 go_enter Tryz.func18,Tryz.ntmps18
 have XBo:=blk10 XB.out
 go_wp2_with fail
 clear XBo
 refine (lquiet_any HV.out la sn seq tok at' dg HQ).mono ?_
 rintro e w2 ⟨rfl,b2⟩
 replace XB:=hZq (upQ XB.out b2)
 replace HV:=hZq (HV.out.later b2)
 replace HB:=hZq (below2Z HB.out b2)
 clear b2
 go_wp2_with fail
 go_ret
 exact⟨rfl,HB.out⟩

theorem rpsync_t {w:World} {v cv vv:Value} {ql:List Chg} {ct view:List Row} {seq tok at' dg nn:Int} {la sn oo:Bool} (hv:Chgs w v ql) (hc:Tab w cv ct) (hw:Tab w vv view) (HQ:Hid (lnQuiet ⟨seq,⟨ql,la⟩,⟨tok,at'⟩,sn,dg⟩=true)) {r:Bool} (HR:Hid (clSame ⟨ct,nn,oo⟩ ⟨view,seq,false⟩=r)) :
  Calls Tryz.prog 18 #[.agg #[.int .i64 seq,v,.bool la,.int .i64 tok,.int .i64 at',.bool sn,.int .i64 dg,cv,.int .i64 nn,.bool oo],vv] w fun e w' => e=.returned (.bool r)∧Below w.heap.size w w':=by
 obtain⟨qa,qc,rfl,-⟩:=hv.open'
 obtain⟨ta,tc,rfl,-⟩:=hc.open'
 obtain⟨va,vc,rfl,-⟩:=hw.open'
 obtain⟨XB,HB⟩:=ent1 w (.cells #[.int .i64 seq,.slice qa ql.length qc,.bool la,.int .i64 tok,.int .i64 at',.bool sn,.int .i64 dg,.slice ta ct.length tc,.int .i64 nn,.bool oo] 41)
 have HV:=hZq ((hv).later HB.out)
 have HC:=hZq ((hc).later HB.out)
 have HW:=hZq ((hw).later HB.out)
 clear hv hc hw
 go_enter Tryz.func18,Tryz.ntmps18
 have XBo:=blk10 XB.out
 go_wp2_with fail
 clear XBo
 refine (lquiet_any HV.out la sn seq tok at' dg HQ).mono ?_
 rintro e w2 ⟨rfl,b2⟩
 replace XB:=hZq (upQ XB.out b2)
 replace HV:=hZq (HV.out.later b2)
 replace HC:=hZq (HC.out.later b2)
 replace HW:=hZq (HW.out.later b2)
 replace HB:=hZq (below2Z HB.out b2)
 clear b2
 have XBo:=blk10 XB.out
 go_wp2_with fail
 clear XBo
 refine (clsame_eq HC.out HW.out nn seq oo false HR).mono ?_
 rintro e w3 ⟨rfl,b3⟩
 replace XB:=hZq (upQ XB.out b3)
 replace HV:=hZq (HV.out.later b3)
 replace HC:=hZq (HC.out.later b3)
 replace HW:=hZq (HW.out.later b3)
 replace HB:=hZq (below2Z HB.out b3)
 clear b3
 go_wp2_with fail
 go_ret
 exact⟨rfl,HB.out⟩

theorem rpsync_any {w:World} {v cv vv:Value} {ql:List Chg} {ct view:List Row} {seq tok at' dg nn:Int} {la sn oo:Bool} (hv:Chgs w v ql) (hc:Tab w cv ct) (hw:Tab w vv view) {r:Bool} (h:Hid (rpSynced (⟨seq,⟨ql,la⟩,⟨tok,at'⟩,sn,dg⟩,⟨ct,nn,oo⟩) view=r)) :
  Calls Tryz.prog 18 #[.agg #[.int .i64 seq,v,.bool la,.int .i64 tok,.int .i64 at',.bool sn,.int .i64 dg,cv,.int .i64 nn,.bool oo],vv] w fun e w' => e=.returned (.bool r)∧Below w.heap.size w w':=by
 have h:=h.out
 unfold rpSynced at h
 simp only at h
 cases hq:lnQuiet ⟨seq,⟨ql,la⟩,⟨tok,at'⟩,sn,dg⟩ with
 | false =>
  rw [hq,Bool.false_and] at h
  subst h
  exact rpsync_f hv hc hw (hZq hq)
 | true =>
  rw [hq,Bool.true_and] at h
  have hr:clSame ⟨ct,nn,oo⟩ ⟨view,seq,false⟩=r:=by
   rw [← h]; unfold clSame; simp only
   cases oo <;> cases decide (nn=seq) <;> rfl
  exact rpsync_t hv hc hw (hZq hq) (hZq hr)
end
section
open Go.RowKit

structure FrS where
 f:Frm
 a:Option Addr
 n:Nat
 cap:Nat

def FrS.zero:FrS:=⟨Frm.zero,none,0,0⟩
def FrS.tv (p:FrS):Value:=.slice p.a p.n p.cap
def frVals (p:FrS):List Value:=[.int .i64 p.f.k,.int .i64 p.f.s,.bool p.f.on,.string ⟨p.f.c.toArray⟩,.int .i64 p.f.v.sh,.int .i64 p.f.v.pr,.int .i64 p.f.v.si,.string ⟨p.f.v.st.toArray⟩,.int .u64 p.f.sum,p.tv]

theorem frSOK:RowOK Tryz.prog frVals 10 FrS.zero 56 75 (.agg #[.int .i64 0,.int .i64 0,.bool false,.string ⟨#[]⟩,.int .i64 0,.int .i64 0,.int .i64 0,.string ⟨#[]⟩,.int .u64 0,.slice none 0 0]) 112 where
 len:=fun _ => rfl
 one:=fun p u hu => by
  simp only [frVals,FrS.tv,List.mem_cons,List.not_mem_nil,or_false] at hu
  rcases hu with rfl | rfl | rfl | rfl | rfl | rfl | rfl | rfl | rfl | rfl <;> rfl
 pos:=by decide
 small:=by decide
 under:=by kernel_rfl
 info:=by kernel_rfl
 zvals:=rfl
 fits:=by decide

def Frms (w:World) (v:Value) (l:List FrS):Prop:=RdS frVals 10 FrS.zero w v l∧∀ p ∈ l,Tab w p.tv p.f.t

theorem Frms.later {w w':World} {v:Value} {l:List FrS} (h:Frms w v l) (hb:Below w.heap.size w w'):Frms w' v l:=⟨RdS.later h.1 hb,fun p hp => (h.2 p hp).later hb⟩
end
section
open Go.RowKit

theorem qupop_own {w:World} {v:Value} {l:List Chg} (hv:Chgs w v l) (hl:l.length≤1000) (la:Bool) (hpos:1≤l.length) {c st:List UInt8} {on:Bool} {a b d:Int} (hg:l.getD 0 Chg.zero=⟨c,on,⟨a,b,d,st⟩⟩) :
  Calls Tryz.prog 149 #[.agg #[v,.bool la]] w fun e w' => ∃ u,e=.returned (.tuple #[.agg #[.string ⟨c.toArray⟩,.bool on,.int .i64 a,.int .i64 b,.int .i64 d,.string ⟨st.toArray⟩],.agg #[u,.bool la],.bool true])∧OwnQ w' w.heap.size u (l.drop 1)∧Below w.heap.size w w':=by
 obtain⟨ao,cap,rfl,_hmx⟩:=hv.open'
 have HW:=hZq hv
 have b0:=bl_newZ w (.cells #[.slice ao l.length cap,.bool la] 26)
 have b1:=bl_newZ (w.alloc (.cells #[.slice ao l.length cap,.bool la] 26)) (.cells #[.string ⟨#[]⟩,.bool false,.int .i64 0,.int .i64 0,.int .i64 0,.string ⟨#[]⟩] 105)
 have b2:=bl_newZ ((w.alloc (.cells #[.slice ao l.length cap,.bool la] 26)).alloc (.cells #[.string ⟨#[]⟩,.bool false,.int .i64 0,.int .i64 0,.int .i64 0,.string ⟨#[]⟩] 105)) (.cells #[.slice none 0 0,.bool false] 26)
 have HB:=hZq (below2Z (below2Z b0 b1) b2)
 have V:=hZq (((hv.later b0).later b1).later b2)
 have A:=hZq (upQ (upQ (newQ w (.cells #[.slice ao l.length cap,.bool la] 26)) b1) b2)
 have C:=newQ (w.alloc (.cells #[.slice ao l.length cap,.bool la] 26)) (.cells #[.string ⟨#[]⟩,.bool false,.int .i64 0,.int .i64 0,.int .i64 0,.string ⟨#[]⟩] 105)
 rw [World.size_alloc] at C
 replace C:=hZq (upQ C b2)
 have R:=newQ ((w.alloc (.cells #[.slice ao l.length cap,.bool la] 26)).alloc (.cells #[.string ⟨#[]⟩,.bool false,.int .i64 0,.int .i64 0,.int .i64 0,.string ⟨#[]⟩] 105)) (.cells #[.slice none 0 0,.bool false] 26)
 rw [World.size_alloc,World.size_alloc] at R
 replace R:=hZq R
 clear b0 b1 b2 hv
 have t1:((l.length:Int) == 0)=false:=by rw [beq_eq_false_iff_ne]; omega
 obtain⟨bk,off,rfl,h0,h1,h2,h3,h4,h5⟩:=V.out.row (Below.refl _ _) 0 hpos
 rw [hg] at h0 h1 h2 h3 h4 h5
 simp only [Nat.zero_mul,Nat.add_zero] at h0 h1 h2 h3 h4 h5
 have hsl:=fun w => run_slice_from_S chgOK w ⟨bk,off,none⟩ l.length cap 1 1 rfl hpos
 have VT:=hZq (RdS.tail V.out.rdS (by decide) 1 hpos)
 have VW:=hZq (RdS.tail HW.out.rdS (by decide) 1 hpos)
 obtain⟨ad,had⟩ : ∃ ad,(if cap=1 then (⟨bk,off,none⟩ : Addr) else (⟨bk,off,none⟩ : Addr).add (1 * 6))=ad:=⟨_,rfl⟩
 rw [had] at VT VW
 simp only [had] at hsl
 have HG:=hZq hg
 clear had hg
 obtain⟨⟨q0,q1⟩,f0,f1⟩:=twoQ A.out
 obtain⟨⟨p0,p1,p2,p3,p4,p5⟩,⟨s0,s1,s2,s3,s4,s5⟩⟩:=sixQ C.out
 obtain⟨⟨r0,r1⟩,g0,g1⟩:=twoQ R.out
 go_enter Tryz.func149,Tryz.ntmps149
 go_upto_region 4 with fail
 clear q0 q1 f0 f1 p0 p1 p2 p3 p4 p5 s0 s1 s2 s3 s4 s5 r0 r1 g0 g1 h0 h1 h2 h3 h4 h5
 have D:=newQ (((w.alloc (.cells #[.slice (some ⟨bk,off,none⟩) l.length cap,.bool la] 26)).alloc (.cells #[.string ⟨#[]⟩,.bool false,.int .i64 0,.int .i64 0,.int .i64 0,.string ⟨#[]⟩] 105)).alloc (.cells #[.slice none 0 0,.bool false] 26)) (.cells #[.string ⟨c.toArray⟩,.bool on,.int .i64 a,.int .i64 b,.int .i64 d,.string ⟨st.toArray⟩] 105)
 rw [World.size_alloc,World.size_alloc,World.size_alloc] at D
 replace D:=hZq D
 have b3:=bl_newZ (((w.alloc (.cells #[.slice (some ⟨bk,off,none⟩) l.length cap,.bool la] 26)).alloc (.cells #[.string ⟨#[]⟩,.bool false,.int .i64 0,.int .i64 0,.int .i64 0,.string ⟨#[]⟩] 105)).alloc (.cells #[.slice none 0 0,.bool false] 26)) (.cells #[.string ⟨c.toArray⟩,.bool on,.int .i64 a,.int .i64 b,.int .i64 d,.string ⟨st.toArray⟩] 105)
 replace A:=hZq (upQ A.out b3)
 replace C:=hZq (upQ C.out b3)
 replace R:=hZq (upQ R.out b3)
 replace VT:=hZq (RdS.later VT.out b3)
 replace HB:=hZq (below2Z HB.out b3)
 clear b3 V
 generalize (((w.alloc (.cells #[.slice (some ⟨bk,off,none⟩) l.length cap,.bool la] 26)).alloc (.cells #[.string ⟨#[]⟩,.bool false,.int .i64 0,.int .i64 0,.int .i64 0,.string ⟨#[]⟩] 105)).alloc (.cells #[.slice none 0 0,.bool false] 26)).alloc (.cells #[.string ⟨c.toArray⟩,.bool on,.int .i64 a,.int .i64 b,.int .i64 d,.string ⟨st.toArray⟩] 105)=W1 at A C R D VT HB ⊢
 have hA:=(Array.getElem?_eq_some_iff.1 A.out).1
 have hC:=(Array.getElem?_eq_some_iff.1 C.out).1
 have hR:=(Array.getElem?_eq_some_iff.1 R.out).1
 obtain⟨⟨q0,q1⟩,f0,f1⟩:=twoQ A.out
 go_wp2_with fail
 clear q0 q1 f0 f1
 refine (chg_clone VT.out (by rw [List.length_drop]; omega)).mono ?_
 rintro e w2 ⟨u,rfl,ho,b2⟩
 replace A:=hZq (upQ A.out b2)
 replace C:=hZq (upQ C.out b2)
 replace R:=hZq (upQ R.out b2)
 replace D:=hZq (upQ D.out b2)
 replace HB:=hZq (below2Z HB.out b2)
 clear b2 VT hsl
 obtain⟨ga,cg,rfl⟩:=ownQ_shape ho
 obtain⟨n1,hn1⟩ : ∃ n,(l.drop 1).length=n:=⟨_,rfl⟩
 rw [hn1] at ho ⊢
 have O:=hZq ho
 clear ho hn1
 obtain⟨⟨q0,q1⟩,f0,f1⟩:=twoQ A.out
 go_upto_region 5 with fail
 have A3:=hZq (show _=some (Obj.cells #[.slice ga n1 cg,.bool la] 26 (0,0)) from heap_setCell_same w2 w.heap.size 0 _ _ (.slice ga n1 cg) A.out)
 have C3:=hZq ((Below.heap_setCell w2 ⟨w.heap.size,0,none⟩ (.slice ga n1 cg) (w.heap.size+1) (by show ¬ w.heap.size+1=w.heap.size; omega)).trans C.out)
 have R3:=hZq ((Below.heap_setCell w2 ⟨w.heap.size,0,none⟩ (.slice ga n1 cg) (w.heap.size+1+1) (by show ¬ w.heap.size+1+1=w.heap.size; omega)).trans R.out)
 have D3:=hZq ((Below.heap_setCell w2 ⟨w.heap.size,0,none⟩ (.slice ga n1 cg) (w.heap.size+1+1+1) (by show ¬ w.heap.size+1+1+1=w.heap.size; omega)).trans D.out)
 have O3:=hZq (ownQ_other O.out hA 0 (.slice ga n1 cg))
 have HB3:=hZq (HB.out.setCell (p:=⟨w.heap.size,0,none⟩) (Nat.le_refl _) (.slice ga n1 cg))
 clear A C R D O HB q0 q1 f0 f1
 generalize w2.setCell ⟨w.heap.size,0,none⟩ (.slice ga n1 cg)=W3 at A3 C3 R3 D3 O3 HB3 ⊢
 obtain⟨⟨q0,q1⟩,f0,f1⟩:=twoQ A3.out
 obtain⟨⟨p0,p1,p2,p3,p4,p5⟩,⟨s0,s1,s2,s3,s4,s5⟩⟩:=sixQ C3.out
 obtain⟨⟨r0,r1⟩,g0,g1⟩:=twoQ R3.out
 obtain⟨⟨m0,m1,m2,m3,m4,m5⟩,⟨k0,k1,k2,k3,k4,k5⟩⟩:=sixQ D3.out
 go_wp2_with fail
 go_region
 go_wp2_with fail
 have hle1:w.heap.size≤w.heap.size+1:=by omega
 have hle2:w.heap.size≤w.heap.size+1+1:=by omega
 refine bodyPost_ret (v:=.tuple #[.agg #[.string ⟨c.toArray⟩,.bool on,.int .i64 a,.int .i64 b,.int .i64 d,.string ⟨st.toArray⟩],.agg #[.slice ga n1 cg,.bool la],.bool true]) (by simp [results,Tryz.results149,go_sem,p0,p1,p2,p3,p4,p5,r0,r1]) rfl ⟨_,rfl,?_,?_⟩
 ·exact ownS_low (OwnS.drew (ownQ_other (ownQ_other (ownQ_other (ownQ_other (ownQ_other (ownQ_other (ownQ_other (ownQ_other O3.out hC _ _) hC _ _) hC _ _) hC _ _) hC _ _) hC _ _) hR _ _) hR _ _)) (Nat.le_of_lt hA)
 ·exact ((store6Q HB3.out hle1 0 1 2 3 4 5 _ _ _ _ _ _).setCell hle2 _ |>.setCell hle2 _).drew

theorem qupop_ownq {w:World} {v:Value} {r:List Chg} {c st:List UInt8} {on:Bool} {a b d:Int} (hv:Chgs w v (⟨c,on,⟨a,b,d,st⟩⟩ :: r)) (hl:r.length < 1000) (la:Bool) :
  Calls Tryz.prog 149 #[.agg #[v,.bool la]] w fun e w' => ∃ u,e=.returned (.tuple #[.agg #[.string ⟨c.toArray⟩,.bool on,.int .i64 a,.int .i64 b,.int .i64 d,.string ⟨st.toArray⟩],.agg #[u,.bool la],.bool true])∧OwnQ w' w.heap.size u r∧Below w.heap.size w w' :=
 qupop_own hv (by simp only [List.length_cons]; omega) la (by simp) rfl
end
end Go.Proofs.YtmpigdokghngiaaGreat
