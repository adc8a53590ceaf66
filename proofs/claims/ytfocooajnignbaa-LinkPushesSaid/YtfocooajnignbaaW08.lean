/-
 TEXTS OF THE PROOF, one behind the other: LnkMay, SubSet, PacAns, LnkPush, QuePopO.
-/
import Derived.Test.YtfocooajnignbaaW05
import Derived.Test.YtfocooajnignbaaW07
import Derived.Test.YtfocooajnignbaaW06
import Derived.Test.YtfocooajnignbaaW01
import Derived.Deep.RegionHeld

set_option maxHeartbeats 12800000
set_option maxRecDepth 100000

namespace Go.Proofs.Ytfocooajnignbaa
section
open Go.RowKit

theorem lwithin_any (n t:Int) (w:World) :
  Calls Try.prog 25 #[.int .i64 n,.int .i64 t] w fun e w' => e=.returned (.bool (decide (0≤n) && decide (n≤t)))∧w=w':=by
 cases h1:decide (0≤n)
 ·go_enter Try.func25,Try.ntmps25
  go_wp2_with fail
  go_ret
  exact⟨rfl,rfl⟩
 ·go_enter Try.func25,Try.ntmps25
  go_wp2_with fail
  go_ret
  exact⟨rfl,rfl⟩

theorem lwithin_eq (n t:Int) {r:Bool} (h:Hid ((decide (0≤n) && decide (n≤t))=r)) (w:World) :
  Calls Try.prog 25 #[.int .i64 n,.int .i64 t] w fun e w' => e=.returned (.bool r)∧w=w':=by
 rw [← h.out]
 exact lwithin_any n t w

theorem ltick_any (n:Int) {r:Bool} (h:Hid (pcTime n=r)) (w:World) :
  Calls Try.prog 18 #[.int .i64 n] w fun e w' => e=.returned (.bool r)∧w=w':=by
 have H:=hZq (lwithin_eq n 1099511627776 (r:=r) h)
 clear h
 go_enter Try.func18,Try.ntmps18
 go_wp2_with fail
 refine (H.out _).mono ?_
 rintro e w1 ⟨rfl,rfl⟩
 go_wp2_with fail
 go_ret
 exact⟨rfl,rfl⟩

theorem lwait_a {w:World} {v:Value} {l:List Chg} (hv:Chgs w v l) (seq tok at' dg ca cb cd ce:Int) (sn:Bool)  :
  Calls Try.prog 24 #[.agg #[.int .i64 ca,.int .i64 cb,.int .i64 cd,.int .i64 ce],.agg #[.int .i64 seq,v,.bool true,.int .i64 tok,.int .i64 at',.bool sn,.int .i64 dg]] w fun e w' => e=.returned (.bool false)∧Below w.heap.size w w':=by
 obtain⟨n,hn⟩ : ∃ n,l.length=n:=⟨_,rfl⟩
 obtain⟨ao,cap,rfl⟩:=chgs_shape hv hn
 obtain⟨CB,LB,HB⟩:=ent2 w (.cells #[.int .i64 ca,.int .i64 cb,.int .i64 cd,.int .i64 ce] 23) (.cells #[.int .i64 seq,.slice ao n cap,.bool true,.int .i64 tok,.int .i64 at',.bool sn,.int .i64 dg] 33)
 have V:=hZq (hv.later HB.out)
 clear hv hn
 have CBo:=blk4 CB.out
 have LBo:=blk7 LB.out
 go_enter Try.func24,Try.ntmps24
 go_wp2_with fail
 go_ret
 exact⟨rfl,HB.out⟩

theorem lwait_b {w:World} {v:Value} {l:List Chg} (hv:Chgs w v l) (seq tok at' dg ca cb cd ce:Int) (hne:0 < l.length) :
  Calls Try.prog 24 #[.agg #[.int .i64 ca,.int .i64 cb,.int .i64 cd,.int .i64 ce],.agg #[.int .i64 seq,v,.bool false,.int .i64 tok,.int .i64 at',.bool true,.int .i64 dg]] w fun e w' => e=.returned (.bool false)∧Below w.heap.size w w':=by
 obtain⟨n,hn⟩ : ∃ n,l.length=n:=⟨_,rfl⟩
 obtain⟨ao,cap,rfl⟩:=chgs_shape hv hn
 rw [hn] at hne
 have t1:decide ((0:Int) < (n:Int))=true:=by simp; omega
 have t2:decide (0 < n)=true:=by simp; omega
 clear hne
 obtain⟨CB,LB,HB⟩:=ent2 w (.cells #[.int .i64 ca,.int .i64 cb,.int .i64 cd,.int .i64 ce] 23) (.cells #[.int .i64 seq,.slice ao n cap,.bool false,.int .i64 tok,.int .i64 at',.bool true,.int .i64 dg] 33)
 have V:=hZq (hv.later HB.out)
 clear hv hn
 have CBo:=blk4 CB.out
 have LBo:=blk7 LB.out
 go_enter Try.func24,Try.ntmps24
 go_wp2_with fail
 go_ret
 exact⟨rfl,HB.out⟩

theorem lwait_c {w:World} {v:Value} {l:List Chg} (hv:Chgs w v l) (seq tok at' dg ca cb cd ce:Int) (he:l.length=0) (hs:ShortC l) (hl:l.length≤100) {r:Bool} (hr:Hid (quMay ⟨l,false⟩ ca=r)) :
  Calls Try.prog 24 #[.agg #[.int .i64 ca,.int .i64 cb,.int .i64 cd,.int .i64 ce],.agg #[.int .i64 seq,v,.bool false,.int .i64 tok,.int .i64 at',.bool true,.int .i64 dg]] w fun e w' => e=.returned (.bool r)∧Below w.heap.size w w':=by
 obtain⟨n,hn⟩ : ∃ n,l.length=n:=⟨_,rfl⟩
 obtain⟨ao,cap,rfl⟩:=chgs_shape hv hn
 have hn0:n=0:=by omega
 have t1:decide ((0:Int) < (n:Int))=false:=by rw [hn0]; rfl
 have t2:decide (0 < n)=false:=by rw [hn0]; rfl
 have HS:=hZq hs
 have HR:=hr
 clear hs hr he hn0
 obtain⟨CB,LB,HB⟩:=ent2 w (.cells #[.int .i64 ca,.int .i64 cb,.int .i64 cd,.int .i64 ce] 23) (.cells #[.int .i64 seq,.slice ao n cap,.bool false,.int .i64 tok,.int .i64 at',.bool true,.int .i64 dg] 33)
 have V:=hZq (hv.later HB.out)
 clear hv hn
 have CBo:=blk4 CB.out
 have LBo:=blk7 LB.out
 go_enter Try.func24,Try.ntmps24
 go_wp2_with fail
 clear CBo LBo
 refine (qumay_any V.out HS.out hl false HR).mono ?_
 rintro e w3 ⟨rfl,b3⟩
 replace CB:=hZq (upQ CB.out b3)
 replace LB:=hZq (upQ LB.out b3)
 replace V:=hZq (V.out.later b3)
 replace HB:=hZq (below2Z HB.out b3)
 clear b3
 go_wp2_with fail
 go_ret
 exact⟨rfl,HB.out⟩

theorem lwait_d {w:World} {v:Value} {l:List Chg} (hv:Chgs w v l) (seq tok at' dg ca cb cd ce:Int) (hs:ShortC l) (hl:l.length≤100) {r:Bool} (hr:Hid (quMay ⟨l,false⟩ ca=r)) :
  Calls Try.prog 24 #[.agg #[.int .i64 ca,.int .i64 cb,.int .i64 cd,.int .i64 ce],.agg #[.int .i64 seq,v,.bool false,.int .i64 tok,.int .i64 at',.bool false,.int .i64 dg]] w fun e w' => e=.returned (.bool r)∧Below w.heap.size w w':=by
 obtain⟨n,hn⟩ : ∃ n,l.length=n:=⟨_,rfl⟩
 obtain⟨ao,cap,rfl⟩:=chgs_shape hv hn
 have HS:=hZq hs
 have HR:=hr
 clear hs hr
 obtain⟨CB,LB,HB⟩:=ent2 w (.cells #[.int .i64 ca,.int .i64 cb,.int .i64 cd,.int .i64 ce] 23) (.cells #[.int .i64 seq,.slice ao n cap,.bool false,.int .i64 tok,.int .i64 at',.bool false,.int .i64 dg] 33)
 have V:=hZq (hv.later HB.out)
 clear hv hn
 have CBo:=blk4 CB.out
 have LBo:=blk7 LB.out
 go_enter Try.func24,Try.ntmps24
 go_wp2_with fail
 clear CBo LBo
 refine (qumay_any V.out HS.out hl false HR).mono ?_
 rintro e w3 ⟨rfl,b3⟩
 replace CB:=hZq (upQ CB.out b3)
 replace LB:=hZq (upQ LB.out b3)
 replace V:=hZq (V.out.later b3)
 replace HB:=hZq (below2Z HB.out b3)
 clear b3
 go_wp2_with fail
 go_ret
 exact⟨rfl,HB.out⟩

def lnWait (room:Int) (l:List Chg) (la sn:Bool):Bool:=!la && ((!sn || decide (l=[])) && quMay ⟨l,la⟩ room)

theorem lwait_any {w:World} {v:Value} {l:List Chg} (hv:Chgs w v l) (hs:ShortC l) (hl:l.length≤100) (la sn:Bool) (seq tok at' dg ca cb cd ce:Int) {r:Bool} (hr:Hid (lnWait ca l la sn=r)) :
  Calls Try.prog 24 #[.agg #[.int .i64 ca,.int .i64 cb,.int .i64 cd,.int .i64 ce],.agg #[.int .i64 seq,v,.bool la,.int .i64 tok,.int .i64 at',.bool sn,.int .i64 dg]] w fun e w' => e=.returned (.bool r)∧Below w.heap.size w w':=by
 have hr:=hr.out
 cases la with
 | true =>
  obtain rfl:false=r:=hr
  exact lwait_a hv seq tok at' dg ca cb cd ce sn
 | false =>
  cases sn with
  | true =>
   by_cases he:l=[]
   ·have e:quMay ⟨l,false⟩ ca=r:=by rw [← hr]; unfold lnWait; simp [he]
    exact lwait_c hv seq tok at' dg ca cb cd ce (by rw [he]; rfl) hs hl (hZq e)
   ·have e:r=false:=by rw [← hr]; unfold lnWait; simp [he]
    subst e
    exact lwait_b hv seq tok at' dg ca cb cd ce (List.length_pos_iff.2 he)
  | false =>
   have e:quMay ⟨l,false⟩ ca=r:=by rw [← hr]; unfold lnWait; simp
   exact lwait_d hv seq tok at' dg ca cb cd ce hs hl (hZq e)

theorem lnMay_split (l:List Chg) (la sn:Bool) (seq tok at' dg ca cb cd ce:Int):lnMay ⟨ca,cb,cd,ce⟩ ⟨seq,⟨l,la⟩,⟨tok,at'⟩,sn,dg⟩=(pcMay ⟨ca,cb,cd,ce⟩ && (lnWait ca l la sn && ((decide (0≤seq) && decide (seq≤1099511627776)) && ((decide (0≤tok) && decide (tok≤cb)) && (pcTime at' && pcTime dg))))):=by
 unfold lnMay pcOne lnWait
 simp only
 rw [Bool.eq_iff_iff]
 simp only [Bool.and_eq_true,decide_eq_true_eq]
 constructor
 ·rintro ⟨⟨a1,a2,a3,a4⟩,b1,b2,b3,b4,b5,b6⟩
  exact⟨a1,⟨b4,b6,b3⟩,⟨b1,b2⟩,⟨a2,a3⟩,a4,b5⟩
 ·rintro ⟨a1,⟨b4,b6,b3⟩,⟨b1,b2⟩,⟨a2,a3⟩,a4,b5⟩
  exact⟨⟨a1,a2,a3,a4⟩,b1,b2,b3,b4,b5,b6⟩

theorem lmay_any {w:World} {v:Value} {l:List Chg} (hv:Chgs w v l) (hs:ShortC l) (hl:l.length≤100) (la sn:Bool) (seq tok at' dg ca cb cd ce:Int) {r:Bool} (hr:Hid (lnMay ⟨ca,cb,cd,ce⟩ ⟨seq,⟨l,la⟩,⟨tok,at'⟩,sn,dg⟩=r)) :
  Calls Try.prog 11 #[.agg #[.int .i64 ca,.int .i64 cb,.int .i64 cd,.int .i64 ce],.agg #[.int .i64 seq,v,.bool la,.int .i64 tok,.int .i64 at',.bool sn,.int .i64 dg]] w fun e w' => e=.returned (.bool r)∧Below w.heap.size w w':=by
 obtain⟨n,hn⟩ : ∃ n,l.length=n:=⟨_,rfl⟩
 obtain⟨ao,cap,rfl⟩:=chgs_shape hv hn
 have HS:=hZq hs
 obtain⟨m0,h0⟩ : ∃ m,pcMay ⟨ca,cb,cd,ce⟩=m:=⟨_,rfl⟩
 obtain⟨m1,h1⟩ : ∃ m,lnWait ca l la sn=m:=⟨_,rfl⟩
 obtain⟨m2,h2⟩ : ∃ m,(decide (0≤seq) && decide (seq≤1099511627776))=m:=⟨_,rfl⟩
 obtain⟨m3,h3⟩ : ∃ m,(decide (0≤tok) && decide (tok≤cb))=m:=⟨_,rfl⟩
 obtain⟨m4,h4⟩ : ∃ m,pcTime at'=m:=⟨_,rfl⟩
 obtain⟨m5,h5⟩ : ∃ m,pcTime dg=m:=⟨_,rfl⟩
 have hr:=hr.out
 rw [lnMay_split,h0,h1,h2,h3,h4,h5] at hr
 subst hr
 have H0:=hZq h0
 have H1:=hZq h1
 have H2:=hZq h2
 have H3:=hZq h3
 have H4:=hZq h4
 have H5:=hZq h5
 clear h0 h1 h2 h3 h4 h5 hs
 obtain⟨CB,LB,HB⟩:=ent2 w (.cells #[.int .i64 ca,.int .i64 cb,.int .i64 cd,.int .i64 ce] 23) (.cells #[.int .i64 seq,.slice ao n cap,.bool la,.int .i64 tok,.int .i64 at',.bool sn,.int .i64 dg] 33)
 have V:=hZq (hv.later HB.out)
 clear hv hn
 have CBo:=blk4 CB.out
 have LBo:=blk7 LB.out
 go_enter Try.func11,Try.ntmps11
 go_wp2_with fail
 clear CBo LBo
 refine (pmay_any ca cb cd ce H0 _).mono ?_
 rintro e w3 ⟨rfl,b3⟩
 replace CB:=hZq (upQ CB.out b3)
 replace LB:=hZq (upQ LB.out b3)
 replace V:=hZq (V.out.later b3)
 replace HB:=hZq (below2Z HB.out b3)
 clear b3
 cases m0 with
 | false =>
  clear CB LB V
  go_wp2_with fail
  go_ret
  exact⟨rfl,HB.out⟩
 | true =>
  have CBo:=blk4 CB.out
  have LBo:=blk7 LB.out
  go_wp2_with fail
  clear CBo LBo
  refine (lwait_any V.out HS.out hl la sn seq tok at' dg ca cb cd ce H1).mono ?_
  rintro e w4 ⟨rfl,b4⟩
  replace CB:=hZq (upQ CB.out b4)
  replace LB:=hZq (upQ LB.out b4)
  replace V:=hZq (V.out.later b4)
  replace HB:=hZq (below2Z HB.out b4)
  clear b4
  cases m1 with
  | false =>
   clear CB LB V
   go_wp2_with fail
   go_ret
   exact⟨rfl,HB.out⟩
  | true =>
   have CBo:=blk4 CB.out
   have LBo:=blk7 LB.out
   go_wp2_with fail
   clear CBo LBo
   refine (lwithin_eq seq 1099511627776 H2 _).mono ?_
   rintro e w5 ⟨rfl,rfl⟩
   cases m2 with
   | false =>
    clear CB LB V
    go_wp2_with fail
    go_ret
    exact⟨rfl,HB.out⟩
   | true =>
    have CBo:=blk4 CB.out
    have LBo:=blk7 LB.out
    go_wp2_with fail
    clear CBo LBo
    refine (lwithin_eq tok cb H3 _).mono ?_
    rintro e w6 ⟨rfl,rfl⟩
    cases m3 with
    | false =>
     clear CB LB V
     go_wp2_with fail
     go_ret
     exact⟨rfl,HB.out⟩
    | true =>
     have CBo:=blk4 CB.out
     have LBo:=blk7 LB.out
     go_wp2_with fail
     clear CBo LBo
     refine (ltick_any at' H4 _).mono ?_
     rintro e w7 ⟨rfl,rfl⟩
     cases m4 with
     | false =>
      clear CB LB V
      go_wp2_with fail
      go_ret
      exact⟨rfl,HB.out⟩
     | true =>
      have CBo:=blk4 CB.out
      have LBo:=blk7 LB.out
      go_wp2_with fail
      clear CBo LBo
      refine (ltick_any dg H5 _).mono ?_
      rintro e w8 ⟨rfl,rfl⟩
      go_wp2_with fail
      go_ret
      exact⟨rfl,HB.out⟩

theorem lquiet_any {w:World} {v:Value} {l:List Chg} (hv:Chgs w v l) (la sn:Bool) (seq tok at' dg:Int) {r:Bool} (hr:Hid (lnQuiet ⟨seq,⟨l,la⟩,⟨tok,at'⟩,sn,dg⟩=r)) :
  Calls Try.prog 13 #[.agg #[.int .i64 seq,v,.bool la,.int .i64 tok,.int .i64 at',.bool sn,.int .i64 dg]] w fun e w' => e=.returned (.bool r)∧Below w.heap.size w w':=by
 obtain⟨n,hn⟩ : ∃ n,l.length=n:=⟨_,rfl⟩
 obtain⟨ao,cap,rfl⟩:=chgs_shape hv hn
 obtain⟨m,hm⟩ : ∃ m,quEmpty ⟨l,la⟩=m:=⟨_,rfl⟩
 have HM:=hZq hm
 have hr:=hr.out
 have hr2:(!sn && m)=r:=by rw [← hr,← hm]; rfl
 subst hr2
 clear hr hm
 obtain⟨LB,HB⟩:=ent1 w (.cells #[.int .i64 seq,.slice ao n cap,.bool la,.int .i64 tok,.int .i64 at',.bool sn,.int .i64 dg] 33)
 have V:=hZq (hv.later HB.out)
 clear hv hn
 cases sn with
 | true =>
  have LBo:=blk7 LB.out
  go_enter Try.func13,Try.ntmps13
  go_wp2_with fail
  go_ret
  exact⟨rfl,HB.out⟩
 | false =>
  have LBo:=blk7 LB.out
  go_enter Try.func13,Try.ntmps13
  go_wp2_with fail
  clear LBo
  refine (quempty_any V.out la HM).mono ?_
  rintro e w2 ⟨rfl,b2⟩
  replace LB:=hZq (upQ LB.out b2)
  replace V:=hZq (V.out.later b2)
  replace HB:=hZq (below2Z HB.out b2)
  clear b2
  go_wp2_with fail
  go_ret
  exact⟨rfl,HB.out⟩
end
section
open Go.RowKit

def setMany (w:World):List (Addr × Value)→World
 | [] => w
 | x :: l => setMany (w.setCell x.1 x.2) l

theorem setMany_other (p:Addr):∀ (l:List (Addr × Value)) (w:World),(∀ x ∈ l,x.1 ≠ p)→(setMany w l).cell? p=w.cell? p
 | [],_,_ => rfl
 | x :: l,w,h => by
  show (setMany (w.setCell x.1 x.2) l).cell? p=_
  rw [setMany_other p l _ (fun y hy => h y (List.mem_cons_of_mem _ hy)),World.cell?_setCell_other _ _ _ _ (h x (by simp))]

theorem setMany_get:∀ (l:List (Addr × Value)) (w:World),l.Pairwise (fun x y => x.1 ≠ y.1)→(∀ x ∈ l,(w.cell? x.1).isSome=true)→∀ x ∈ l,(setMany w l).cell? x.1=some x.2
 | [],_,_,_,_,h => by cases h
 | y :: l,w,hp,hs,x,hx => by
  obtain⟨h1,h2⟩:=List.pairwise_cons.1 hp
  show (setMany (w.setCell y.1 y.2) l).cell? x.1=_
  rcases List.mem_cons.1 hx with rfl | hx
  ·rw [setMany_other _ l _ (fun z hz => (h1 z hz).symm)]
   exact World.cell?_setCell_same' _ _ _ (hs x (by simp))
  ·refine setMany_get l _ h2 (fun z hz => ?_) x hx
   rw [World.cell?_setCell_other _ _ _ _ (h1 z hz)]
   exact hs z (List.mem_cons_of_mem _ hz)

theorem setMany_below {w:World}:∀ (l:List (Addr × Value)) {w1:World},Below w.heap.size w w1→(∀ x ∈ l,w.heap.size≤x.1.block)→Below w.heap.size w (setMany w1 l)
 | [],_,h,_ => h
 | x :: l,_,h,hl => setMany_below l (h.setCell (hl x (by simp)) _) (fun y hy => hl y (List.mem_cons_of_mem _ hy))

def set10 (w:World) (B C:Nat) (a1 a2 a3 a4 a5 b1 b2 b3 b4 b5:Value):World :=
 setMany w [(⟨B,0,none⟩,a1),(⟨B,1,none⟩,a2),(⟨B,2,none⟩,a3),(⟨B,3,none⟩,a4),(⟨B,4,none⟩,a5),(⟨C,0,none⟩,b1),(⟨C,1,none⟩,b2),(⟨C,2,none⟩,b3),(⟨C,3,none⟩,b4),(⟨C,4,none⟩,b5)]
end
section
open Go.RowKit

theorem set2_get (w:World) (B:Nat) (a0 a1:Value) {u0 u1:Value} (h0:w.cell? ⟨B,0,none⟩=some u0) (h1:w.cell? ⟨B,1,none⟩=some u1) :
  (setMany w [(⟨B,0,none⟩,a0),(⟨B,1,none⟩,a1)]).cell? ⟨B,0,none⟩=some a0∧(setMany w [(⟨B,0,none⟩,a0),(⟨B,1,none⟩,a1)]).cell? ⟨B,1,none⟩=some a1:=by
 have hm:=setMany_get [(⟨B,0,none⟩,a0),(⟨B,1,none⟩,a1)] w (by simp) (by simp [h0,h1])
 exact⟨hm (_,_) (by simp),hm (_,_) (by simp)⟩

theorem set2_below {w w1:World} (h:Below w.heap.size w w1) (B:Nat) (hB:w.heap.size≤B) (a0 a1:Value):Below w.heap.size w (setMany w1 [(⟨B,0,none⟩,a0),(⟨B,1,none⟩,a1)]) :=
 setMany_below _ h (by simp [hB])

def boxR (w:World):World:=w.alloc (.cells #[.int .i64 0,.int .i64 0] 31)

theorem boxR_at (w:World) {B:Nat} (hB:B=w.heap.size):CellsAt (boxR w) B 0 [.int .i64 0,.int .i64 0]:=cellsAt_made rfl 31 hB
theorem boxR_free (w:World) {B:Nat} (hB:B=w.heap.size):∀ i,(boxR w).frozen? ⟨B,i,none⟩=false:=by
 subst hB
 exact freeAt_made 31

theorem pnew_any (a b d e now:Int) {x y:Int} {n:Nat} (h:Hid (pcNew ⟨a,b,d,e⟩ now=(⟨x,y⟩,n))) (w:World) :
  Calls Try.prog 14 #[.agg #[.int .i64 a,.int .i64 b,.int .i64 d,.int .i64 e],.int .i64 now] w fun e w' => e=.returned (.tuple #[.agg #[.int .i64 x,.int .i64 y],.int .i64 (n:Int)])∧Below w.heap.size w w':=by
 have HB:=hZq (below2Z (bl_newZ w (.cells #[.int .i64 a,.int .i64 b,.int .i64 d,.int .i64 e] 23)) (bl_newZ _ (.cells #[.int .i64 0,.int .i64 0] 31)))
 have K0:=hZq ((cellsAt_made (w:=w) (cs:=#[.int .i64 a,.int .i64 b,.int .i64 d,.int .i64 e]) (vs:=[.int .i64 a,.int .i64 b,.int .i64 d,.int .i64 e]) rfl 23 rfl).later (bl_newZ _ (.cells #[.int .i64 0,.int .i64 0] 31)))
 have K2:=hZq (boxR_at (w.alloc (.cells #[.int .i64 a,.int .i64 b,.int .i64 d,.int .i64 e] 23)) (B:=w.heap.size+1) (by simp))
 have FZ:=hZq (boxR_free (w.alloc (.cells #[.int .i64 a,.int .i64 b,.int .i64 d,.int .i64 e] 23)) (B:=w.heap.size+1) (by simp))
 obtain⟨q1,h1⟩ : ∃ q,pcMay ⟨a,b,d,e⟩=q:=⟨_,rfl⟩
 have H1:=hZq (pmay_any a b d e (hZq h1))
 have H2:=hZq (ptick_any now)
 obtain⟨q2,h2⟩ : ∃ q,pcTime now=q:=⟨_,rfl⟩
 rw [h2] at H2
 have HR:=h.out
 unfold pcNew at HR
 rw [h1,h2] at HR
 clear h h1 h2
 cases q1 with
 | false =>
  simp at HR
  obtain⟨⟨rfl,rfl⟩,rfl⟩:=HR
  go_enter Try.func14,Try.ntmps14
  go_wp2_with fail
  refine (H1.out _).mono ?_
  rintro e w1 ⟨rfl,b1⟩
  have fz:=free_later (World.block_lt_of_cell? _ _ (K2.out 0 _ rfl)) FZ.out b1
  replace K0:=hZq (K0.out.later b1)
  replace K2:=hZq (K2.out.later b1)
  replace FZ:=hZq fz
  replace HB:=hZq (below2Z HB.out b1)
  clear fz b1
  obtain⟨c0,c1,c2,c3⟩:=cells4P K0.out
  obtain⟨z0,z1⟩:=cells2P K2.out
  have f0:=FZ.out 0
  have f1:=FZ.out 1
  go_wp2_with fail
  obtain⟨r0,r1⟩:=set2_get w1 (w.heap.size+1) (.int .i64 0) (.int .i64 0) z0 z1
  have hB:=set2_below HB.out (w.heap.size+1) (by omega) (.int .i64 0) (.int .i64 0)
  show bodyPost _ _ _ _ _ (setMany w1 [(⟨w.heap.size+1,0,none⟩,.int .i64 0),(⟨w.heap.size+1,1,none⟩,.int .i64 0)])
  exact bodyPost_ret (v:=.tuple #[.agg #[.int .i64 0,.int .i64 0],.int .i64 1]) (by simp [results,Try.results14,go_sem,r0,r1]) rfl ⟨rfl,hB⟩
 | true =>
  cases q2 with
  | false =>
   simp at HR
   obtain⟨⟨rfl,rfl⟩,rfl⟩:=HR
   go_enter Try.func14,Try.ntmps14
   go_wp2_with fail
   refine (H1.out _).mono ?_
   rintro e w1 ⟨rfl,b1⟩
   have fz:=free_later (World.block_lt_of_cell? _ _ (K2.out 0 _ rfl)) FZ.out b1
   replace K0:=hZq (K0.out.later b1)
   replace K2:=hZq (K2.out.later b1)
   replace FZ:=hZq fz
   replace HB:=hZq (below2Z HB.out b1)
   clear fz b1
   obtain⟨c0,c1,c2,c3⟩:=cells4P K0.out
   obtain⟨z0,z1⟩:=cells2P K2.out
   have f0:=FZ.out 0
   have f1:=FZ.out 1
   go_wp2_with fail
   refine (H2.out _).mono ?_
   rintro e w2 ⟨rfl,rfl⟩
   go_wp2_with fail
   obtain⟨r0,r1⟩:=set2_get w1 (w.heap.size+1) (.int .i64 0) (.int .i64 0) z0 z1
   have hB:=set2_below HB.out (w.heap.size+1) (by omega) (.int .i64 0) (.int .i64 0)
   show bodyPost _ _ _ _ _ (setMany w1 [(⟨w.heap.size+1,0,none⟩,.int .i64 0),(⟨w.heap.size+1,1,none⟩,.int .i64 0)])
   exact bodyPost_ret (v:=.tuple #[.agg #[.int .i64 0,.int .i64 0],.int .i64 1]) (by simp [results,Try.results14,go_sem,r0,r1]) rfl ⟨rfl,hB⟩
  | true =>
   simp at HR
   obtain⟨⟨rfl,rfl⟩,rfl⟩:=HR
   go_enter Try.func14,Try.ntmps14
   go_wp2_with fail
   refine (H1.out _).mono ?_
   rintro e w1 ⟨rfl,b1⟩
   have fz:=free_later (World.block_lt_of_cell? _ _ (K2.out 0 _ rfl)) FZ.out b1
   replace K0:=hZq (K0.out.later b1)
   replace K2:=hZq (K2.out.later b1)
   replace FZ:=hZq fz
   replace HB:=hZq (below2Z HB.out b1)
   clear fz b1
   obtain⟨c0,c1,c2,c3⟩:=cells4P K0.out
   obtain⟨z0,z1⟩:=cells2P K2.out
   have f0:=FZ.out 0
   have f1:=FZ.out 1
   go_wp2_with fail
   refine (H2.out _).mono ?_
   rintro e w2 ⟨rfl,rfl⟩
   go_wp2_with fail
   obtain⟨r0,r1⟩:=set2_get w1 (w.heap.size+1) (.int .i64 b) (.int .i64 now) z0 z1
   have hB:=set2_below HB.out (w.heap.size+1) (by omega) (.int .i64 b) (.int .i64 now)
   show bodyPost _ _ _ _ _ (setMany w1 [(⟨w.heap.size+1,0,none⟩,.int .i64 b),(⟨w.heap.size+1,1,none⟩,.int .i64 now)])
   exact bodyPost_ret (v:=.tuple #[.agg #[.int .i64 b,.int .i64 now],.int .i64 0]) (by simp [results,Try.results14,go_sem,r0,r1]) rfl ⟨rfl,hB⟩

theorem pcLev_in {a b d e tok at' now:Int} (h:pcOne ⟨a,b,d,e⟩ ⟨tok,at'⟩=true):0≤pcLev ⟨a,b,d,e⟩ ⟨tok,at'⟩ now∧pcLev ⟨a,b,d,e⟩ ⟨tok,at'⟩ now≤64:=by
 obtain⟨g1,g2,-⟩:=pcLev_ge (now:=now) h
 obtain⟨hm,-⟩:=pcOne_iff.1 h
 obtain⟨-,-,-,m2,-⟩:=pcMay_iff.1 hm
 simp only at g2 m2
 omega

theorem pcMax_in {a b d e tok at' now:Int} (h:pcOne ⟨a,b,d,e⟩ ⟨tok,at'⟩=true) (ht:pcTime now=true):0≤max now at'∧max now at'≤1099511627776:=by
 obtain⟨-,-,-,h3,h4⟩:=pcOne_iff.1 h
 obtain⟨t1,t2⟩:=pcTime_iff.1 ht
 simp only at h3 h4
 omega

theorem ptake_any (a b d e tok at' now:Int) {x y:Int} {is:Bool} (h:Hid (pcTake ⟨a,b,d,e⟩ ⟨tok,at'⟩ now=(⟨x,y⟩,is))) (w:World) :
  Calls Try.prog 20 #[.agg #[.int .i64 a,.int .i64 b,.int .i64 d,.int .i64 e],.agg #[.int .i64 tok,.int .i64 at'],.int .i64 now] w fun e w' => e=.returned (.tuple #[.agg #[.int .i64 x,.int .i64 y],.bool is])∧Below w.heap.size w w':=by
 have HB:=hZq (below2Z (boxes_below w a b d e tok at') (bl_newZ _ (.cells #[.int .i64 0,.int .i64 0] 31)))
 have K0:=hZq ((boxes_cfg w a b d e tok at').later (bl_newZ _ (.cells #[.int .i64 0,.int .i64 0] 31)))
 have K1:=hZq ((boxes_bkt w a b d e tok at').later (bl_newZ _ (.cells #[.int .i64 0,.int .i64 0] 31)))
 have K2:=hZq (boxR_at (boxes w a b d e tok at') (B:=w.heap.size+1+1) (by simp [boxes]))
 have FZ:=hZq (boxR_free (boxes w a b d e tok at') (B:=w.heap.size+1+1) (by simp [boxes]))
 have HR:=h.out
 unfold pcTake at HR
 obtain⟨q,hq⟩ : ∃ q,(pcOne ⟨a,b,d,e⟩ ⟨tok,at'⟩ && pcTime now)=q:=⟨_,rfl⟩
 have H1:=hZq (pmayBe_any a b d e tok at' now (hZq hq))
 rw [hq] at HR
 clear h
 cases q with
 | false =>
  simp at HR
  obtain⟨⟨rfl,rfl⟩,rfl⟩:=HR
  clear hq
  go_enter Try.func20,Try.ntmps20
  go_wp2_with fail
  refine (H1.out _).mono ?_
  rintro e w1 ⟨rfl,b1⟩
  have fz:=free_later (World.block_lt_of_cell? _ _ (K2.out 0 _ rfl)) FZ.out b1
  replace K0:=hZq (K0.out.later b1)
  replace K1:=hZq (K1.out.later b1)
  replace K2:=hZq (K2.out.later b1)
  replace FZ:=hZq fz
  replace HB:=hZq (below2Z HB.out b1)
  clear fz b1
  obtain⟨c0,c1,c2,c3⟩:=cells4P K0.out
  obtain⟨d0,d1⟩:=cells2P K1.out
  obtain⟨z0,z1⟩:=cells2P K2.out
  have f0:=FZ.out 0
  have f1:=FZ.out 1
  go_wp2_with fail
  obtain⟨r0,r1⟩:=set2_get w1 (w.heap.size+1+1) (.int .i64 tok) (.int .i64 at') z0 z1
  have hB:=set2_below HB.out (w.heap.size+1+1) (by omega) (.int .i64 tok) (.int .i64 at')
  show bodyPost _ _ _ _ _ (setMany w1 [(⟨w.heap.size+1+1,0,none⟩,.int .i64 tok),(⟨w.heap.size+1+1,1,none⟩,.int .i64 at')])
  exact bodyPost_ret (v:=.tuple #[.agg #[.int .i64 tok,.int .i64 at'],.bool false]) (by simp [results,Try.results20,go_sem,r0,r1]) rfl ⟨rfl,hB⟩
 | true =>
  simp only [if_true] at HR
  rw [Bool.and_eq_true] at hq
  obtain⟨re,im,R,M,HO⟩:=ponward_any a b d e tok at' now (hZq hq.1) (hZq hq.2)
  have HO:=hZq HO
  obtain⟨g1,g2⟩:=pcLev_in (now:=now) hq.1
  obtain⟨m1,m2⟩:=pcMax_in hq.1 hq.2
  obtain⟨lev,hlev⟩ : ∃ v,pcLev ⟨a,b,d,e⟩ ⟨tok,at'⟩ now=v:=⟨_,rfl⟩
  obtain⟨top,htop⟩ : ∃ v,max now at'=v:=⟨_,rfl⟩
  rw [hlev] at R g1 g2 HR
  rw [htop] at M m1 m2 HR
  have HT:=hZq (ptokens_any (im:=im) R (by omega) (by omega))
  clear hq hlev htop
  by_cases h0:lev=0
  ·subst h0
   simp at HR
   obtain⟨⟨rfl,rfl⟩,rfl⟩:=HR
   have HK:=hZq (pbucketOf_any R (by omega) (by omega) M (by omega) (by omega))
   clear R M g1 g2 m1 m2
   go_enter Try.func20,Try.ntmps20
   go_wp2_with fail
   refine (H1.out _).mono ?_
   rintro e w1 ⟨rfl,b1⟩
   have fz:=free_later (World.block_lt_of_cell? _ _ (K2.out 0 _ rfl)) FZ.out b1
   replace K0:=hZq (K0.out.later b1)
   replace K1:=hZq (K1.out.later b1)
   replace K2:=hZq (K2.out.later b1)
   replace FZ:=hZq fz
   replace HB:=hZq (below2Z HB.out b1)
   clear fz b1
   obtain⟨c0,c1,c2,c3⟩:=cells4P K0.out
   obtain⟨d0,d1⟩:=cells2P K1.out
   go_wp2_with fail
   clear c0 c1 c2 c3 d0 d1
   refine (HO.out _).mono ?_
   rintro e w2 ⟨rfl,b2⟩
   have fz:=free_later (World.block_lt_of_cell? _ _ (K2.out 0 _ rfl)) FZ.out b2
   replace K0:=hZq (K0.out.later b2)
   replace K1:=hZq (K1.out.later b2)
   replace K2:=hZq (K2.out.later b2)
   replace FZ:=hZq fz
   replace HB:=hZq (below2Z HB.out b2)
   clear fz b2
   go_wp2_with fail
   refine (HT.out _).mono ?_
   rintro e w9 ⟨rfl,rfl⟩
   go_wp2_with fail
   refine (HK.out _).mono ?_
   rintro e w3 ⟨rfl,b3⟩
   have fz:=free_later (World.block_lt_of_cell? _ _ (K2.out 0 _ rfl)) FZ.out b3
   replace K0:=hZq (K0.out.later b3)
   replace K1:=hZq (K1.out.later b3)
   replace K2:=hZq (K2.out.later b3)
   replace FZ:=hZq fz
   replace HB:=hZq (below2Z HB.out b3)
   clear fz b3
   obtain⟨z0,z1⟩:=cells2P K2.out
   have f0:=FZ.out 0
   have f1:=FZ.out 1
   go_wp2_with fail
   obtain⟨r0,r1⟩:=set2_get w3 (w.heap.size+1+1) (.int .i64 0) (.int .i64 top) z0 z1
   have hB:=set2_below HB.out (w.heap.size+1+1) (by omega) (.int .i64 0) (.int .i64 top)
   show bodyPost _ _ _ _ _ (setMany w3 [(⟨w.heap.size+1+1,0,none⟩,.int .i64 0),(⟨w.heap.size+1+1,1,none⟩,.int .i64 top)])
   exact bodyPost_ret (v:=.tuple #[.agg #[.int .i64 0,.int .i64 top],.bool false]) (by simp [results,Try.results20,go_sem,r0,r1]) rfl ⟨rfl,hB⟩
  ·rw [if_neg h0] at HR
   simp only [Prod.mk.injEq,Bkt.mk.injEq] at HR
   obtain⟨⟨rfl,rfl⟩,rfl⟩:=HR
   have t1:(lev == 0)=false:=by rw [beq_eq_false_iff_ne]; exact h0
   obtain⟨p,hp,P⟩:=sub_whole R isF_one (int_whole (by omega) (by omega))
   obtain⟨q,hq,Q⟩:=sub_whole M isF_zero (int_whole (by omega) (by omega))
   rw [Int.sub_zero] at Q
   have hs:cSumBits .sub .f64 re im 4607182418800017408 0=some (p,q):=by simp only [cSumBits,floatBits,FloatKind.format,hp,hq,Option.bind_some]
   have r1:=fun w => run_complex_sum (P:=Try.prog) w .sub (.inr rfl) 78 .f64 _ _ _ _ _ _ hs
   have HK:=hZq (pbucketOf_any P (by omega) (by omega) Q (by omega) (by omega))
   clear R M g1 g2 m1 m2 hp hq P Q hs h0
   go_enter Try.func20,Try.ntmps20
   go_wp2_with fail
   refine (H1.out _).mono ?_
   rintro e w1 ⟨rfl,b1⟩
   have fz:=free_later (World.block_lt_of_cell? _ _ (K2.out 0 _ rfl)) FZ.out b1
   replace K0:=hZq (K0.out.later b1)
   replace K1:=hZq (K1.out.later b1)
   replace K2:=hZq (K2.out.later b1)
   replace FZ:=hZq fz
   replace HB:=hZq (below2Z HB.out b1)
   clear fz b1
   obtain⟨c0,c1,c2,c3⟩:=cells4P K0.out
   obtain⟨d0,d1⟩:=cells2P K1.out
   go_wp2_with fail
   clear c0 c1 c2 c3 d0 d1
   refine (HO.out _).mono ?_
   rintro e w2 ⟨rfl,b2⟩
   have fz:=free_later (World.block_lt_of_cell? _ _ (K2.out 0 _ rfl)) FZ.out b2
   replace K0:=hZq (K0.out.later b2)
   replace K1:=hZq (K1.out.later b2)
   replace K2:=hZq (K2.out.later b2)
   replace FZ:=hZq fz
   replace HB:=hZq (below2Z HB.out b2)
   clear fz b2
   go_wp2_with fail
   refine (HT.out _).mono ?_
   rintro e w9 ⟨rfl,rfl⟩
   go_wp2_with fail
   refine (HK.out _).mono ?_
   rintro e w3 ⟨rfl,b3⟩
   have fz:=free_later (World.block_lt_of_cell? _ _ (K2.out 0 _ rfl)) FZ.out b3
   replace K0:=hZq (K0.out.later b3)
   replace K1:=hZq (K1.out.later b3)
   replace K2:=hZq (K2.out.later b3)
   replace FZ:=hZq fz
   replace HB:=hZq (below2Z HB.out b3)
   clear fz b3
   obtain⟨z0,z1⟩:=cells2P K2.out
   have f0:=FZ.out 0
   have f1:=FZ.out 1
   go_wp2_with fail
   obtain⟨r0,r1⟩:=set2_get w3 (w.heap.size+1+1) (.int .i64 (lev - 1)) (.int .i64 top) z0 z1
   have hB:=set2_below HB.out (w.heap.size+1+1) (by omega) (.int .i64 (lev - 1)) (.int .i64 top)
   show bodyPost _ _ _ _ _ (setMany w3 [(⟨w.heap.size+1+1,0,none⟩,.int .i64 (lev - 1)),(⟨w.heap.size+1+1,1,none⟩,.int .i64 top)])
   exact bodyPost_ret (v:=.tuple #[.agg #[.int .i64 (lev - 1),.int .i64 top],.bool true]) (by simp [results,Try.results20,go_sem,r0,r1]) rfl ⟨rfl,hB⟩
end
section
open Go.RowKit

theorem chgs_keep {w:World} {v:Value} {l:List Chg} (h:Chgs w v l) {B:Nat} {cs:Array Value} {T:TypeId} (hb:w.heap[B]?=some (.cells cs T (0,0))) (hs:∀ (j:Nat) (s:ByteArray),cs[j]? ≠ some (.string s)) {W:World} (hfar:∀ k,¬ k=B→W.heap[k]?=w.heap[k]?) (hsz:w.heap.size≤W.heap.size):Chgs W v l:=by
 obtain⟨a,cap,h1,h2,h3,h4,h5⟩:=h
 refine ⟨a,cap,h1,h2,h3,h4,?_⟩
 rcases h5 with h5 | ⟨b,off,e,hlt,hc⟩
 ·exact .inl h5
 ·by_cases ht:l=[]
  ·exact .inl ht
  ·have hpos:0 < l.length:=List.length_pos_iff.2 ht
   have hne:¬ b=B:=by
    rintro rfl
    have h5:=(hc 0 hpos).1
    rw [Nat.zero_mul,Nat.add_zero] at h5
    simp only [World.cell?,hb] at h5
    exact hs _ _ (by simpa using h5)
   refine .inr ⟨b,off,e,Nat.lt_of_lt_of_le hlt hsz,fun i hi => ?_⟩
   have k:∀ o,W.cell? ⟨b,o,none⟩=w.cell? ⟨b,o,none⟩:=fun o => World.cell?_of_block (hfar b hne)
   obtain⟨c0,c1,c2,c3,c4,c5⟩:=hc i hi
   exact⟨(k _).trans c0,(k _).trans c1,(k _).trans c2,(k _).trans c3,(k _).trans c4,(k _).trans c5⟩

theorem noText7 {a b c d e f g:Value} (ha:∀ s,a ≠ .string s) (hb:∀ s,b ≠ .string s) (hc:∀ s,c ≠ .string s) (hd:∀ s,d ≠ .string s) (he:∀ s,e ≠ .string s) (hf:∀ s,f ≠ .string s) (hg:∀ s,g ≠ .string s):∀ (j:Nat) (s:ByteArray),(#[a,b,c,d,e,f,g]:Array Value)[j]? ≠ some (.string s):=by
 intro j s h
 match j,h with
 | 0,h => exact ha s (by simpa using h)
 | 1,h => exact hb s (by simpa using h)
 | 2,h => exact hc s (by simpa using h)
 | 3,h => exact hd s (by simpa using h)
 | 4,h => exact he s (by simpa using h)
 | 5,h => exact hf s (by simpa using h)
 | 6,h => exact hg s (by simpa using h)
 | j+7,h => simp at h

theorem noLink (seq tok at' dg:Int) (ao:Option Addr) (n cap:Nat) (la sn:Bool):∀ (j:Nat) (s:ByteArray),(#[.int .i64 seq,.slice ao n cap,.bool la,.int .i64 tok,.int .i64 at',.bool sn,.int .i64 dg]:Array Value)[j]? ≠ some (.string s) :=
 noText7 (by intro s h; cases h) (by intro s h; cases h) (by intro s h; cases h) (by intro s h; cases h) (by intro s h; cases h) (by intro s h; cases h) (by intro s h; cases h)

theorem lask_any (seq tok at' dg:Int) (ao:Option Addr) (n cap:Nat) (la sn:Bool) (w:World) :
  Calls Try.prog 22 #[.agg #[.int .i64 seq,.slice ao n cap,.bool la,.int .i64 tok,.int .i64 at',.bool sn,.int .i64 dg]] w fun e w' => e=.returned (.agg #[.int .i64 seq,.slice none 0 0,.bool false,.int .i64 tok,.int .i64 at',.bool true,.int .i64 dg])∧Below w.heap.size w w':=by
 obtain⟨LB,RB,HB⟩:=ent2 w (.cells #[.int .i64 seq,.slice ao n cap,.bool la,.int .i64 tok,.int .i64 at',.bool sn,.int .i64 dg] 33) (.cells #[.int .i64 0,.slice none 0 0,.bool false,.int .i64 0,.int .i64 0,.bool false,.int .i64 0] 33)
 have LBo:=blk7 LB.out
 have RBo:=blk7 RB.out
 go_enter Try.func22,Try.ntmps22
 go_wp2_with fail
 refine bodyPost_ret (v:=.agg #[.int .i64 seq,.slice none 0 0,.bool false,.int .i64 tok,.int .i64 at',.bool true,.int .i64 dg]) (by simp [results,Try.results22,go_sem]) rfl ⟨rfl,?_⟩
 exact ((Below.refl _ _).alloc (Nat.le_refl _) _).alloc (by simp) _

theorem lpush_a (ca cb cd ce seq tok at' dg xa xb xd:Int) (ao:Option Addr) (n cap:Nat) (la xo:Bool) (xc xs:List UInt8) (w:World) :
  Calls Try.prog 10 #[.agg #[.int .i64 ca,.int .i64 cb,.int .i64 cd,.int .i64 ce],.agg #[.int .i64 seq,.slice ao n cap,.bool la,.int .i64 tok,.int .i64 at',.bool true,.int .i64 dg],.agg #[.string ⟨xc.toArray⟩,.bool xo,.int .i64 xa,.int .i64 xb,.int .i64 xd,.string ⟨xs.toArray⟩]] w fun e w' => e=.returned (.agg #[.int .i64 seq,.slice ao n cap,.bool la,.int .i64 tok,.int .i64 at',.bool true,.int .i64 dg])∧Below w.heap.size w w':=by
 obtain⟨CB,LB,XB,RB,HB⟩:=ent4 w (.cells #[.int .i64 ca,.int .i64 cb,.int .i64 cd,.int .i64 ce] 23) (.cells #[.int .i64 seq,.slice ao n cap,.bool la,.int .i64 tok,.int .i64 at',.bool true,.int .i64 dg] 33) (.cells #[.string ⟨xc.toArray⟩,.bool xo,.int .i64 xa,.int .i64 xb,.int .i64 xd,.string ⟨xs.toArray⟩] 42) (.cells #[.int .i64 0,.slice none 0 0,.bool false,.int .i64 0,.int .i64 0,.bool false,.int .i64 0] 33)
 have CBo:=blk4 CB.out
 have LBo:=blk7 LB.out
 have XBo:=blk6 XB.out
 have RBo:=blk7 RB.out
 go_enter Try.func10,Try.ntmps10
 go_wp2_with fail
 refine bodyPost_ret (v:=.agg #[.int .i64 seq,.slice ao n cap,.bool la,.int .i64 tok,.int .i64 at',.bool true,.int .i64 dg]) (by simp [results,Try.results10,go_sem]) rfl ⟨rfl,?_⟩
 exact ((((Below.refl _ _).alloc (Nat.le_refl _) _).alloc (by simp) _).alloc (by simp; omega) _).alloc (by simp; omega) _

theorem lpush_b {w:World} {v:Value} {l:List Chg} (hv:Chgs w v l) (hl:l.length≤1000) (ca cb cd ce seq tok at' dg xa xb xd:Int) (la xo:Bool) (xc xs:List UInt8) {ql:List Chg} (hr:Hid (quPush ⟨l,la⟩ ⟨xc,xo,⟨xa,xb,xd,xs⟩⟩ ca=⟨ql,true⟩)) :
  Calls Try.prog 10 #[.agg #[.int .i64 ca,.int .i64 cb,.int .i64 cd,.int .i64 ce],.agg #[.int .i64 seq,v,.bool la,.int .i64 tok,.int .i64 at',.bool false,.int .i64 dg],.agg #[.string ⟨xc.toArray⟩,.bool xo,.int .i64 xa,.int .i64 xb,.int .i64 xd,.string ⟨xs.toArray⟩]] w fun e w' => e=.returned (.agg #[.int .i64 seq,.slice none 0 0,.bool false,.int .i64 tok,.int .i64 at',.bool true,.int .i64 dg])∧Below w.heap.size w w':=by
 obtain⟨n,hn⟩ : ∃ n,l.length=n:=⟨_,rfl⟩
 obtain⟨ao,cap,rfl⟩:=chgs_shape hv hn
 have HR:=hr
 obtain⟨CB,LB,XB,RB,HB⟩:=ent4 w (.cells #[.int .i64 ca,.int .i64 cb,.int .i64 cd,.int .i64 ce] 23) (.cells #[.int .i64 seq,.slice ao n cap,.bool la,.int .i64 tok,.int .i64 at',.bool false,.int .i64 dg] 33) (.cells #[.string ⟨xc.toArray⟩,.bool xo,.int .i64 xa,.int .i64 xb,.int .i64 xd,.string ⟨xs.toArray⟩] 42) (.cells #[.int .i64 0,.slice none 0 0,.bool false,.int .i64 0,.int .i64 0,.bool false,.int .i64 0] 33)
 have V:=hZq (hv.later HB.out)
 clear hv hr
 have CBo:=blk4 CB.out
 have LBo:=blk7 LB.out
 have XBo:=blk6 XB.out
 have RBo:=blk7 RB.out
 go_enter Try.func10,Try.ntmps10
 go_wp2_with fail
 clear CBo LBo XBo RBo
 refine (qupush_any V.out hl la xc xs xo xa xb xd ca HR).mono ?_
 rintro e w5 ⟨u,rfl,hu,b5⟩
 replace CB:=hZq (upQ CB.out b5)
 replace LB:=hZq (upQ LB.out b5)
 replace XB:=hZq (upQ XB.out b5)
 replace RB:=hZq (upQ RB.out b5)
 replace V:=hZq (V.out.later b5)
 replace HB:=hZq (below2Z HB.out b5)
 obtain⟨m,hm⟩ : ∃ m,ql.length=m:=⟨_,rfl⟩
 obtain⟨a2,c2,rfl⟩:=chgs_shape hu hm
 have U:=hZq hu
 clear hu
 clear b5
 clear V
 have b6:=bl_newZ w5 (.cells #[.slice a2 m c2,.bool true] 29)
 have QB:=newQ w5 (.cells #[.slice a2 m c2,.bool true] 29)
 have hQB:w.heap.size≤w5.heap.size:=HB.out.size
 replace CB:=hZq (upQ CB.out b6)
 replace LB:=hZq (upQ LB.out b6)
 replace XB:=hZq (upQ XB.out b6)
 replace RB:=hZq (upQ RB.out b6)
 replace U:=hZq (U.out.later b6)
 replace HB:=hZq (below2Z HB.out b6)
 clear b6
 replace QB:=hZq QB
 have CBo:=blk4 CB.out
 have LBo:=blk7 LB.out
 have XBo:=blk6 XB.out
 have RBo:=blk7 RB.out
 have QBo:=blk2 QB.out
 go_wp2_with fail
 clear CBo LBo XBo RBo QBo
 generalize w5.alloc (.cells #[.slice a2 m c2,.bool true] 29)=w7 at CB LB XB RB QB U HB ⊢
 refine (lask_any seq tok at' dg ao n cap la false _).mono ?_
 rintro e w8 ⟨rfl,b8⟩
 replace CB:=hZq (upQ CB.out b8)
 replace LB:=hZq (upQ LB.out b8)
 replace XB:=hZq (upQ XB.out b8)
 replace RB:=hZq (upQ RB.out b8)
 replace QB:=hZq (upQ QB.out b8)
 replace U:=hZq (U.out.later b8)
 replace HB:=hZq (below2Z HB.out b8)
 clear b8
 have RBo:=blk7 RB.out
 go_wp2_with fail
 have hle:w.heap.size≤w.heap.size+1+1+1:=by omega
 have hz:=stN7_heap RB.out (.int .i64 seq) (.slice none 0 0) (.bool false) (.int .i64 tok) (.int .i64 at') (.bool true) (.int .i64 dg)
 obtain⟨⟨z0,z1,z2,z3,z4,z5,z6⟩,-⟩:=blk7 hz
 unfold stN7 at z0 z1 z2 z3 z4 z5 z6
 refine bodyPost_ret (v:=.agg #[.int .i64 seq,.slice none 0 0,.bool false,.int .i64 tok,.int .i64 at',.bool true,.int .i64 dg]) (by simp [results,Try.results10,go_sem,z0,z1,z2,z3,z4,z5,z6]) rfl ⟨rfl,?_⟩
 exact ((((((HB.out.setCell hle _).setCell hle _).setCell hle _).setCell hle _).setCell hle _).setCell hle _).setCell hle _

theorem lpush_c {w:World} {v:Value} {l:List Chg} (hv:Chgs w v l) (hl:l.length≤1000) (ca cb cd ce seq tok at' dg xa xb xd:Int) (la xo:Bool) (xc xs:List UInt8) {ql:List Chg} (hr:Hid (quPush ⟨l,la⟩ ⟨xc,xo,⟨xa,xb,xd,xs⟩⟩ ca=⟨ql,false⟩)) :
  Calls Try.prog 10 #[.agg #[.int .i64 ca,.int .i64 cb,.int .i64 cd,.int .i64 ce],.agg #[.int .i64 seq,v,.bool la,.int .i64 tok,.int .i64 at',.bool false,.int .i64 dg],.agg #[.string ⟨xc.toArray⟩,.bool xo,.int .i64 xa,.int .i64 xb,.int .i64 xd,.string ⟨xs.toArray⟩]] w fun e w' => ∃ u,e=.returned (.agg #[.int .i64 seq,u,.bool false,.int .i64 tok,.int .i64 at',.bool false,.int .i64 dg])∧Chgs w' u ql∧Below w.heap.size w w':=by
 obtain⟨n,hn⟩ : ∃ n,l.length=n:=⟨_,rfl⟩
 obtain⟨ao,cap,rfl⟩:=chgs_shape hv hn
 have HR:=hr
 obtain⟨CB,LB,XB,RB,HB⟩:=ent4 w (.cells #[.int .i64 ca,.int .i64 cb,.int .i64 cd,.int .i64 ce] 23) (.cells #[.int .i64 seq,.slice ao n cap,.bool la,.int .i64 tok,.int .i64 at',.bool false,.int .i64 dg] 33) (.cells #[.string ⟨xc.toArray⟩,.bool xo,.int .i64 xa,.int .i64 xb,.int .i64 xd,.string ⟨xs.toArray⟩] 42) (.cells #[.int .i64 0,.slice none 0 0,.bool false,.int .i64 0,.int .i64 0,.bool false,.int .i64 0] 33)
 have V:=hZq (hv.later HB.out)
 clear hv hr
 have CBo:=blk4 CB.out
 have LBo:=blk7 LB.out
 have XBo:=blk6 XB.out
 have RBo:=blk7 RB.out
 go_enter Try.func10,Try.ntmps10
 go_wp2_with fail
 clear CBo LBo XBo RBo
 refine (qupush_any V.out hl la xc xs xo xa xb xd ca HR).mono ?_
 rintro e w5 ⟨u,rfl,hu,b5⟩
 replace CB:=hZq (upQ CB.out b5)
 replace LB:=hZq (upQ LB.out b5)
 replace XB:=hZq (upQ XB.out b5)
 replace RB:=hZq (upQ RB.out b5)
 replace V:=hZq (V.out.later b5)
 replace HB:=hZq (below2Z HB.out b5)
 obtain⟨m,hm⟩ : ∃ m,ql.length=m:=⟨_,rfl⟩
 obtain⟨a2,c2,rfl⟩:=chgs_shape hu hm
 have U:=hZq hu
 clear hu
 clear b5
 clear V
 have b6:=bl_newZ w5 (.cells #[.slice a2 m c2,.bool false] 29)
 have QB:=newQ w5 (.cells #[.slice a2 m c2,.bool false] 29)
 have hQB:w.heap.size≤w5.heap.size:=HB.out.size
 replace CB:=hZq (upQ CB.out b6)
 replace LB:=hZq (upQ LB.out b6)
 replace XB:=hZq (upQ XB.out b6)
 replace RB:=hZq (upQ RB.out b6)
 replace U:=hZq (U.out.later b6)
 replace HB:=hZq (below2Z HB.out b6)
 clear b6
 replace QB:=hZq QB
 have CBo:=blk4 CB.out
 have LBo:=blk7 LB.out
 have XBo:=blk6 XB.out
 have RBo:=blk7 RB.out
 have QBo:=blk2 QB.out
 go_upto_region 6 with fail
 clear CBo LBo XBo RBo QBo
 generalize w5.alloc (.cells #[.slice a2 m c2,.bool false] 29)=w7 at CB LB XB RB QB U HB ⊢
 have CBo:=blk4 CB.out
 have LBo:=blk7 LB.out
 have XBo:=blk6 XB.out
 have RBo:=blk7 RB.out
 have QBo:=blk2 QB.out
 go_upto_region 7 with fail
 clear CBo LBo XBo RBo QBo
 have hle:w.heap.size≤w.heap.size+1+1+1:=by omega
 have hle1:w.heap.size≤w.heap.size+1:=Nat.le_succ _
 have hne:¬ w.heap.size+1+1+1=w.heap.size+1:=by omega
 have LB2:Hid (((w7.setCell ⟨w.heap.size+1,1,none⟩ (.slice a2 m c2)).setCell ⟨w.heap.size+1,2,none⟩ (.bool false)).heap[w.heap.size+1]?=some (.cells #[.int .i64 seq,.slice a2 m c2,.bool false,.int .i64 tok,.int .i64 at',.bool false,.int .i64 dg] 33 (0,0))):=hZq (heap_setCell_same _ (w.heap.size+1) 2 _ _ (.bool false) (heap_setCell_same _ (w.heap.size+1) 1 _ _ (.slice a2 m c2) LB.out))
 have RB2:Hid (((w7.setCell ⟨w.heap.size+1,1,none⟩ (.slice a2 m c2)).setCell ⟨w.heap.size+1,2,none⟩ (.bool false)).heap[w.heap.size+1+1+1]?=some (.cells #[.int .i64 0,.slice none 0 0,.bool false,.int .i64 0,.int .i64 0,.bool false,.int .i64 0] 33 (0,0))):=hZq (by rw [Below.heap_setCell _ _ _ (w.heap.size+1+1+1) hne,Below.heap_setCell _ _ _ (w.heap.size+1+1+1) hne]; exact RB.out)
 have HB2:Hid (Below w.heap.size w ((w7.setCell ⟨w.heap.size+1,1,none⟩ (.slice a2 m c2)).setCell ⟨w.heap.size+1,2,none⟩ (.bool false))):=hZq ((HB.out.setCell hle1 _).setCell hle1 _)
 have U2:Hid (Chgs ((w7.setCell ⟨w.heap.size+1,1,none⟩ (.slice a2 m c2)).setCell ⟨w.heap.size+1,2,none⟩ (.bool false)) (.slice a2 m c2) ql):=hZq (chgs_keep U.out LB.out (noLink _ _ _ _ _ _ _ _ _) (fun k hk => by rw [Below.heap_setCell _ _ _ k hk,Below.heap_setCell _ _ _ k hk]) (by simp [World.setCell]))
 clear LB RB HB U CB XB QB
 generalize (w7.setCell ⟨w.heap.size+1,1,none⟩ (.slice a2 m c2)).setCell ⟨w.heap.size+1,2,none⟩ (.bool false)=W9 at LB2 RB2 HB2 U2 ⊢
 have LB2o:=blk7 LB2.out
 have RB2o:=blk7 RB2.out
 go_wp2_with fail
 have hz:=stN7_heap RB2.out (.int .i64 seq) (.slice a2 m c2) (.bool false) (.int .i64 tok) (.int .i64 at') (.bool false) (.int .i64 dg)
 have U3:=chgs_keep U2.out RB2.out (noLink _ _ _ _ _ _ _ _ _) (fun k hk => stN7_far W9 (w.heap.size+1+1+1) (.int .i64 seq) (.slice a2 m c2) (.bool false) (.int .i64 tok) (.int .i64 at') (.bool false) (.int .i64 dg) hk) (by rw [stN7_size]; exact Nat.le_refl _)
 obtain⟨⟨z0,z1,z2,z3,z4,z5,z6⟩,-⟩:=blk7 hz
 unfold stN7 at z0 z1 z2 z3 z4 z5 z6
 refine bodyPost_ret (v:=.agg #[.int .i64 seq,.slice a2 m c2,.bool false,.int .i64 tok,.int .i64 at',.bool false,.int .i64 dg]) (by simp [results,Try.results10,go_sem,z0,z1,z2,z3,z4,z5,z6]) rfl ⟨_,rfl,U3,?_⟩
 exact ((((((HB2.out.setCell hle _).setCell hle _).setCell hle _).setCell hle _).setCell hle _).setCell hle _).setCell hle _

theorem lpush_any {w:World} {v:Value} {l:List Chg} (hv:Chgs w v l) (hl:l.length≤1000) (la sn:Bool) (ca cb cd ce seq tok at' dg xa xb xd:Int) (xo:Bool) (xc xs:List UInt8) {m:Lnk} (hr:Hid (lnPush ⟨ca,cb,cd,ce⟩ ⟨seq,⟨l,la⟩,⟨tok,at'⟩,sn,dg⟩ ⟨xc,xo,⟨xa,xb,xd,xs⟩⟩=m)) :
  Calls Try.prog 10 #[.agg #[.int .i64 ca,.int .i64 cb,.int .i64 cd,.int .i64 ce],.agg #[.int .i64 seq,v,.bool la,.int .i64 tok,.int .i64 at',.bool sn,.int .i64 dg],.agg #[.string ⟨xc.toArray⟩,.bool xo,.int .i64 xa,.int .i64 xb,.int .i64 xd,.string ⟨xs.toArray⟩]] w fun e w' => ∃ u,e=.returned (.agg #[.int .i64 m.seq,u,.bool m.q.la,.int .i64 m.b.tok,.int .i64 m.b.at',.bool m.sn,.int .i64 m.dg])∧Chgs w' u m.q.l∧Below w.heap.size w w':=by
 have hr:=hr.out
 subst hr
 unfold lnPush
 cases sn with
 | true =>
  rw [if_pos rfl]
  obtain⟨ao,cap,rfl⟩:=chgs_shape hv rfl
  exact (lpush_a ca cb cd ce seq tok at' dg xa xb xd ao l.length cap la xo xc xs w).mono fun e w' ⟨h1,h2⟩ => ⟨_,h1,hv.later h2,h2⟩
 | false =>
  rw [if_neg (by simp)]
  obtain⟨⟨ql,qa⟩,hq⟩ : ∃ q,quPush ⟨l,la⟩ ⟨xc,xo,⟨xa,xb,xd,xs⟩⟩ ca=q:=⟨_,rfl⟩
  simp only
  rw [hq]
  cases qa with
  | true =>
   rw [if_pos rfl]
   exact (lpush_b hv hl ca cb cd ce seq tok at' dg xa xb xd la xo xc xs (hZq hq)).mono fun e w' ⟨h1,h2⟩ => ⟨_,h1,chgs_nil _,h2⟩
  | false =>
   rw [if_neg (by simp)]
   exact lpush_c hv hl ca cb cd ce seq tok at' dg xa xb xd la xo xc xs (hZq hq)

theorem lnew_a (ca cb cd ce now:Int) {bx bt:Int} (hr:Hid (pcNew ⟨ca,cb,cd,ce⟩ now=(⟨bx,bt⟩,0))) (w:World) :
  Calls Try.prog 7 #[.agg #[.int .i64 ca,.int .i64 cb,.int .i64 cd,.int .i64 ce],.int .i64 now] w fun e w' => e=.returned (.tuple #[.agg #[.int .i64 0,.slice none 0 0,.bool false,.int .i64 bx,.int .i64 bt,.bool true,.int .i64 now],.int .i64 0])∧Below w.heap.size w w':=by
 have HR:=hr
 obtain⟨CB,RB,HB⟩:=ent2 w (.cells #[.int .i64 ca,.int .i64 cb,.int .i64 cd,.int .i64 ce] 23) (.cells #[.int .i64 0,.slice none 0 0,.bool false,.int .i64 0,.int .i64 0,.bool false,.int .i64 0] 33)
 clear hr
 have CBo:=blk4 CB.out
 have RBo:=blk7 RB.out
 go_enter Try.func7,Try.ntmps7
 go_wp2_with fail
 clear CBo RBo
 refine (pnew_any ca cb cd ce now HR _).mono ?_
 rintro e w3 ⟨rfl,b3⟩
 replace CB:=hZq (upQ CB.out b3)
 replace RB:=hZq (upQ RB.out b3)
 replace HB:=hZq (below2Z HB.out b3)
 clear b3
 have b4:=bl_newZ w3 (.cells #[.int .i64 bx,.int .i64 bt] 31)
 have BB:=newQ w3 (.cells #[.int .i64 bx,.int .i64 bt] 31)
 have hBB:w.heap.size≤w3.heap.size:=HB.out.size
 replace CB:=hZq (upQ CB.out b4)
 replace RB:=hZq (upQ RB.out b4)
 replace HB:=hZq (below2Z HB.out b4)
 clear b4
 replace BB:=hZq BB
 go_upto_region 2 with fail
 generalize w3.alloc (.cells #[.int .i64 bx,.int .i64 bt] 31)=w5 at CB RB BB HB ⊢
 have CBo:=blk4 CB.out
 have RBo:=blk7 RB.out
 have BBo:=blk2 BB.out
 have hle:w.heap.size≤w.heap.size+1:=by omega
 go_wp2_with fail
 have hz:=stN7_heap RB.out (.int .i64 0) (.slice none 0 0) (.bool false) (.int .i64 bx) (.int .i64 bt) (.bool true) (.int .i64 now)
 obtain⟨⟨z0,z1,z2,z3,z4,z5,z6⟩,-⟩:=blk7 hz
 unfold stN7 at z0 z1 z2 z3 z4 z5 z6
 refine bodyPost_ret (v:=.tuple #[.agg #[.int .i64 0,.slice none 0 0,.bool false,.int .i64 bx,.int .i64 bt,.bool true,.int .i64 now],.int .i64 0]) (by simp [results,Try.results7,go_sem,z0,z1,z2,z3,z4,z5,z6]) rfl ⟨rfl,?_⟩
 exact ((((((HB.out.setCell hle _).setCell hle _).setCell hle _).setCell hle _).setCell hle _).setCell hle _).setCell hle _

theorem lnew_b (ca cb cd ce now:Int) {bx bt:Int} {n:Nat} (hn:0 < n) (hr:Hid (pcNew ⟨ca,cb,cd,ce⟩ now=(⟨bx,bt⟩,n))) (w:World) :
  Calls Try.prog 7 #[.agg #[.int .i64 ca,.int .i64 cb,.int .i64 cd,.int .i64 ce],.int .i64 now] w fun e w' => e=.returned (.tuple #[.agg #[.int .i64 0,.slice none 0 0,.bool false,.int .i64 0,.int .i64 0,.bool false,.int .i64 0],.int .i64 n])∧Below w.heap.size w w':=by
 have HR:=hr
 obtain⟨CB,RB,HB⟩:=ent2 w (.cells #[.int .i64 ca,.int .i64 cb,.int .i64 cd,.int .i64 ce] 23) (.cells #[.int .i64 0,.slice none 0 0,.bool false,.int .i64 0,.int .i64 0,.bool false,.int .i64 0] 33)
 clear hr
 have CBo:=blk4 CB.out
 have RBo:=blk7 RB.out
 go_enter Try.func7,Try.ntmps7
 go_wp2_with fail
 clear CBo RBo
 refine (pnew_any ca cb cd ce now HR _).mono ?_
 rintro e w3 ⟨rfl,b3⟩
 replace CB:=hZq (upQ CB.out b3)
 replace RB:=hZq (upQ RB.out b3)
 replace HB:=hZq (below2Z HB.out b3)
 clear b3
 have b4:=bl_newZ w3 (.cells #[.int .i64 bx,.int .i64 bt] 31)
 have BB:=newQ w3 (.cells #[.int .i64 bx,.int .i64 bt] 31)
 have hBB:w.heap.size≤w3.heap.size:=HB.out.size
 replace CB:=hZq (upQ CB.out b4)
 replace RB:=hZq (upQ RB.out b4)
 replace HB:=hZq (below2Z HB.out b4)
 clear b4
 replace BB:=hZq BB
 go_upto_region 2 with fail
 generalize w3.alloc (.cells #[.int .i64 bx,.int .i64 bt] 31)=w5 at CB RB BB HB ⊢
 have CBo:=blk4 CB.out
 have RBo:=blk7 RB.out
 have BBo:=blk2 BB.out
 have hle:w.heap.size≤w.heap.size+1:=by omega
 have t1:((n:Int) != 0)=true:=by rw [bne_iff_ne]; omega
 go_wp2_with fail
 have hz:=stN7_heap RB.out (.int .i64 0) (.slice none 0 0) (.bool false) (.int .i64 0) (.int .i64 0) (.bool false) (.int .i64 0)
 obtain⟨⟨z0,z1,z2,z3,z4,z5,z6⟩,-⟩:=blk7 hz
 unfold stN7 at z0 z1 z2 z3 z4 z5 z6
 refine bodyPost_ret (v:=.tuple #[.agg #[.int .i64 0,.slice none 0 0,.bool false,.int .i64 0,.int .i64 0,.bool false,.int .i64 0],.int .i64 n]) (by simp [results,Try.results7,go_sem,z0,z1,z2,z3,z4,z5,z6]) rfl ⟨rfl,?_⟩
 exact ((((((HB.out.setCell hle _).setCell hle _).setCell hle _).setCell hle _).setCell hle _).setCell hle _).setCell hle _

def lnNew (c:Cfg) (now:Int):Lnk × Nat:=if (pcNew c now).2=0 then (⟨0,⟨[],false⟩,(pcNew c now).1,true,now⟩,0) else (⟨0,⟨[],false⟩,⟨0,0⟩,false,0⟩,(pcNew c now).2)

theorem lnew_any (ca cb cd ce now:Int) {m:Lnk} {n:Nat} (hr:Hid (lnNew ⟨ca,cb,cd,ce⟩ now=(m,n))) (w:World) :
  Calls Try.prog 7 #[.agg #[.int .i64 ca,.int .i64 cb,.int .i64 cd,.int .i64 ce],.int .i64 now] w fun e w' => e=.returned (.tuple #[.agg #[.int .i64 m.seq,.slice none 0 0,.bool m.q.la,.int .i64 m.b.tok,.int .i64 m.b.at',.bool m.sn,.int .i64 m.dg],.int .i64 n])∧m.q.l=[]∧Below w.heap.size w w':=by
 have hr:=hr.out
 obtain⟨⟨⟨bx,bt⟩,k⟩,hk⟩ : ∃ p,pcNew ⟨ca,cb,cd,ce⟩ now=p:=⟨_,rfl⟩
 unfold lnNew at hr
 rw [hk] at hr
 cases k with
 | zero =>
  rw [if_pos rfl] at hr
  cases hr
  exact (lnew_a ca cb cd ce now (hZq hk) w).mono fun e w' ⟨h1,h2⟩ => ⟨h1,rfl,h2⟩
 | succ k =>
  rw [if_neg (by simp)] at hr
  cases hr
  exact (lnew_b ca cb cd ce now (Nat.succ_pos k) (hZq hk) w).mono fun e w' ⟨h1,h2⟩ => ⟨h1,rfl,h2⟩
end
section
open Go.RowKit

theorem qupop_own {w:World} {v:Value} {l:List Chg} (hv:Chgs w v l) (hl:l.length≤1000) (la:Bool) (hpos:1≤l.length) {c st:List UInt8} {on:Bool} {a b d:Int} (hg:l.getD 0 Chg.zero=⟨c,on,⟨a,b,d,st⟩⟩) :
  Calls Try.prog 50 #[.agg #[v,.bool la]] w fun e w' => ∃ u,e=.returned (.tuple #[.agg #[.string ⟨c.toArray⟩,.bool on,.int .i64 a,.int .i64 b,.int .i64 d,.string ⟨st.toArray⟩],.agg #[u,.bool la],.bool true])∧OwnQ w' w.heap.size u (l.drop 1)∧Below w.heap.size w w':=by
 obtain⟨ao,cap,rfl,_hmx⟩:=hv.open'
 have HW:=hZq hv
 have b0:=bl_newZ w (.cells #[.slice ao l.length cap,.bool la] 29)
 have b1:=bl_newZ (w.alloc (.cells #[.slice ao l.length cap,.bool la] 29)) (.cells #[.string ⟨#[]⟩,.bool false,.int .i64 0,.int .i64 0,.int .i64 0,.string ⟨#[]⟩] 42)
 have b2:=bl_newZ ((w.alloc (.cells #[.slice ao l.length cap,.bool la] 29)).alloc (.cells #[.string ⟨#[]⟩,.bool false,.int .i64 0,.int .i64 0,.int .i64 0,.string ⟨#[]⟩] 42)) (.cells #[.slice none 0 0,.bool false] 29)
 have HB:=hZq (below2Z (below2Z b0 b1) b2)
 have V:=hZq (((hv.later b0).later b1).later b2)
 have A:=hZq (upQ (upQ (newQ w (.cells #[.slice ao l.length cap,.bool la] 29)) b1) b2)
 have C:=newQ (w.alloc (.cells #[.slice ao l.length cap,.bool la] 29)) (.cells #[.string ⟨#[]⟩,.bool false,.int .i64 0,.int .i64 0,.int .i64 0,.string ⟨#[]⟩] 42)
 rw [World.size_alloc] at C
 replace C:=hZq (upQ C b2)
 have R:=newQ ((w.alloc (.cells #[.slice ao l.length cap,.bool la] 29)).alloc (.cells #[.string ⟨#[]⟩,.bool false,.int .i64 0,.int .i64 0,.int .i64 0,.string ⟨#[]⟩] 42)) (.cells #[.slice none 0 0,.bool false] 29)
 rw [World.size_alloc,World.size_alloc] at R
 replace R:=hZq R
 clear b0 b1 b2 hv
 have t1:((l.length:Int) == 0)=false:=by rw [beq_eq_false_iff_ne]; omega
 obtain⟨bk,off,rfl,h0,h1,h2,h3,h4,h5⟩:=V.out.row (Below.refl _ _) 0 hpos
 rw [hg] at h0 h1 h2 h3 h4 h5
 simp only [Nat.zero_mul,Nat.add_zero] at h0 h1 h2 h3 h4 h5
 have hsl:=fun w => run_slice_from_S chgOK w ⟨bk,off,none⟩ l.length cap 1 1 rfl hpos
 have VT:=hZq (RdS.tail V.out.rdS (by decide) 1 hpos)
 have VW:=hZq (RdS.tail HW.out.rdS (by decide) 1 hpos)
 obtain⟨ad,had⟩ : ∃ ad,(if cap=1 then (⟨bk,off,none⟩ : Addr) else (⟨bk,off,none⟩ : Addr).add (1 * 6))=ad:=⟨_,rfl⟩
 rw [had] at VT VW
 simp only [had] at hsl
 have HG:=hZq hg
 clear had hg
 obtain⟨⟨q0,q1⟩,f0,f1⟩:=twoQ A.out
 obtain⟨⟨p0,p1,p2,p3,p4,p5⟩,⟨s0,s1,s2,s3,s4,s5⟩⟩:=sixQ C.out
 obtain⟨⟨r0,r1⟩,g0,g1⟩:=twoQ R.out
 go_enter Try.func50,Try.ntmps50
 go_upto_region 4 with fail
 clear q0 q1 f0 f1 p0 p1 p2 p3 p4 p5 s0 s1 s2 s3 s4 s5 r0 r1 g0 g1 h0 h1 h2 h3 h4 h5
 have D:=newQ (((w.alloc (.cells #[.slice (some ⟨bk,off,none⟩) l.length cap,.bool la] 29)).alloc (.cells #[.string ⟨#[]⟩,.bool false,.int .i64 0,.int .i64 0,.int .i64 0,.string ⟨#[]⟩] 42)).alloc (.cells #[.slice none 0 0,.bool false] 29)) (.cells #[.string ⟨c.toArray⟩,.bool on,.int .i64 a,.int .i64 b,.int .i64 d,.string ⟨st.toArray⟩] 42)
 rw [World.size_alloc,World.size_alloc,World.size_alloc] at D
 replace D:=hZq D
 have b3:=bl_newZ (((w.alloc (.cells #[.slice (some ⟨bk,off,none⟩) l.length cap,.bool la] 29)).alloc (.cells #[.string ⟨#[]⟩,.bool false,.int .i64 0,.int .i64 0,.int .i64 0,.string ⟨#[]⟩] 42)).alloc (.cells #[.slice none 0 0,.bool false] 29)) (.cells #[.string ⟨c.toArray⟩,.bool on,.int .i64 a,.int .i64 b,.int .i64 d,.string ⟨st.toArray⟩] 42)
 replace A:=hZq (upQ A.out b3)
 replace C:=hZq (upQ C.out b3)
 replace R:=hZq (upQ R.out b3)
 replace VT:=hZq (RdS.later VT.out b3)
 replace HB:=hZq (below2Z HB.out b3)
 clear b3 V
 generalize (((w.alloc (.cells #[.slice (some ⟨bk,off,none⟩) l.length cap,.bool la] 29)).alloc (.cells #[.string ⟨#[]⟩,.bool false,.int .i64 0,.int .i64 0,.int .i64 0,.string ⟨#[]⟩] 42)).alloc (.cells #[.slice none 0 0,.bool false] 29)).alloc (.cells #[.string ⟨c.toArray⟩,.bool on,.int .i64 a,.int .i64 b,.int .i64 d,.string ⟨st.toArray⟩] 42)=W1 at A C R D VT HB ⊢
 have hA:=(Array.getElem?_eq_some_iff.1 A.out).1
 have hC:=(Array.getElem?_eq_some_iff.1 C.out).1
 have hR:=(Array.getElem?_eq_some_iff.1 R.out).1
 obtain⟨⟨q0,q1⟩,f0,f1⟩:=twoQ A.out
 go_wp2_with fail
 clear q0 q1 f0 f1
 refine (chg_clone VT.out (by rw [List.length_drop]; omega)).mono ?_
 rintro e w2 ⟨u,rfl,ho,b2⟩
 replace A:=hZq (upQ A.out b2)
 replace C:=hZq (upQ C.out b2)
 replace R:=hZq (upQ R.out b2)
 replace D:=hZq (upQ D.out b2)
 replace HB:=hZq (below2Z HB.out b2)
 clear b2 VT hsl
 obtain⟨ga,cg,rfl⟩:=ownQ_shape ho
 obtain⟨n1,hn1⟩ : ∃ n,(l.drop 1).length=n:=⟨_,rfl⟩
 rw [hn1] at ho ⊢
 have O:=hZq ho
 clear ho hn1
 obtain⟨⟨q0,q1⟩,f0,f1⟩:=twoQ A.out
 go_upto_region 5 with fail
 have A3:=hZq (show _=some (Obj.cells #[.slice ga n1 cg,.bool la] 29 (0,0)) from heap_setCell_same w2 w.heap.size 0 _ _ (.slice ga n1 cg) A.out)
 have C3:=hZq ((Below.heap_setCell w2 ⟨w.heap.size,0,none⟩ (.slice ga n1 cg) (w.heap.size+1) (by show ¬ w.heap.size+1=w.heap.size; omega)).trans C.out)
 have R3:=hZq ((Below.heap_setCell w2 ⟨w.heap.size,0,none⟩ (.slice ga n1 cg) (w.heap.size+1+1) (by show ¬ w.heap.size+1+1=w.heap.size; omega)).trans R.out)
 have D3:=hZq ((Below.heap_setCell w2 ⟨w.heap.size,0,none⟩ (.slice ga n1 cg) (w.heap.size+1+1+1) (by show ¬ w.heap.size+1+1+1=w.heap.size; omega)).trans D.out)
 have O3:=hZq (ownQ_other O.out hA 0 (.slice ga n1 cg))
 have HB3:=hZq (HB.out.setCell (p:=⟨w.heap.size,0,none⟩) (Nat.le_refl _) (.slice ga n1 cg))
 clear A C R D O HB q0 q1 f0 f1
 generalize w2.setCell ⟨w.heap.size,0,none⟩ (.slice ga n1 cg)=W3 at A3 C3 R3 D3 O3 HB3 ⊢
 obtain⟨⟨q0,q1⟩,f0,f1⟩:=twoQ A3.out
 obtain⟨⟨p0,p1,p2,p3,p4,p5⟩,⟨s0,s1,s2,s3,s4,s5⟩⟩:=sixQ C3.out
 obtain⟨⟨r0,r1⟩,g0,g1⟩:=twoQ R3.out
 obtain⟨⟨m0,m1,m2,m3,m4,m5⟩,⟨k0,k1,k2,k3,k4,k5⟩⟩:=sixQ D3.out
 go_wp2_with fail
 go_region
 go_wp2_with fail
 have hle1:w.heap.size≤w.heap.size+1:=by omega
 have hle2:w.heap.size≤w.heap.size+1+1:=by omega
 refine bodyPost_ret (v:=.tuple #[.agg #[.string ⟨c.toArray⟩,.bool on,.int .i64 a,.int .i64 b,.int .i64 d,.string ⟨st.toArray⟩],.agg #[.slice ga n1 cg,.bool la],.bool true]) (by simp [results,Try.results50,go_sem,p0,p1,p2,p3,p4,p5,r0,r1]) rfl ⟨_,rfl,?_,?_⟩
 ·exact ownS_low (OwnS.drew (ownQ_other (ownQ_other (ownQ_other (ownQ_other (ownQ_other (ownQ_other (ownQ_other (ownQ_other O3.out hC _ _) hC _ _) hC _ _) hC _ _) hC _ _) hC _ _) hR _ _) hR _ _)) (Nat.le_of_lt hA)
 ·exact ((store6Q HB3.out hle1 0 1 2 3 4 5 _ _ _ _ _ _).setCell hle2 _ |>.setCell hle2 _).drew

theorem qupop_ownq {w:World} {v:Value} {r:List Chg} {c st:List UInt8} {on:Bool} {a b d:Int} (hv:Chgs w v (⟨c,on,⟨a,b,d,st⟩⟩ :: r)) (hl:r.length < 1000) (la:Bool) :
  Calls Try.prog 50 #[.agg #[v,.bool la]] w fun e w' => ∃ u,e=.returned (.tuple #[.agg #[.string ⟨c.toArray⟩,.bool on,.int .i64 a,.int .i64 b,.int .i64 d,.string ⟨st.toArray⟩],.agg #[u,.bool la],.bool true])∧OwnQ w' w.heap.size u r∧Below w.heap.size w w' :=
 qupop_own hv (by simp only [List.length_cons]; omega) la (by simp) rfl
end
end Go.Proofs.Ytfocooajnignbaa
