/-
 TEXTS OF THE PROOF, one behind the other: RosGetC, RosPlace, RosFind, EntDel.
-/
import Derived.Test.YtphfinlfabklmaaGreatB10
import Derived.BigQuiet
import Derived.Lib.QuietBelow
import Derived.Test.YtphfinlfabklmaaGreatB01

set_option maxHeartbeats 12800000
set_option maxRecDepth 100000

section

namespace Go.Proofs.YtphfinlfabklmaaGreat
open Go.RowKit

theorem roFirst_get (l:List Ent) (o c:List UInt8):(roFirst l (entOf o c)=(0,false)∧roGet l o c=It.zero)∨∃ k,k < l.length∧roFirst l (entOf o c)=(k,true)∧roGet l o c=(l.getD k Ent.zero).it:=by
 by_cases h:∃ k,k < l.length∧entIs (l.getD k Ent.zero) (entOf o c)=true
 ·obtain⟨k,hk,hs⟩:=h
  have hany:(l.any fun e => entIs e (entOf o c))=true:=by
   rw [List.any_eq_true]
   exact⟨l.getD k Ent.zero,by rw [getD_at hk]; exact List.getElem_mem hk,hs⟩
  have hlt:l.findIdx (fun e => entIs e (entOf o c)) < l.length:=by
   rw [List.findIdx_lt_length]
   obtain⟨e,he,hx⟩:=List.any_eq_true.1 hany
   exact⟨e,he,hx⟩
  have hf:=List.findIdx_getElem (w:=hlt)
  have hb:∀ j,j < l.findIdx (fun e => entIs e (entOf o c))→entIs (l.getD j Ent.zero) (entOf o c)=false:=fun j hj => by
   have:=List.not_of_lt_findIdx hj
   rw [getD_at (by omega)]
   simpa using this
  rw [← getD_at hlt] at hf
  refine .inr ⟨_,hlt,roFirst_yes hlt hb hf,?_⟩
  obtain⟨h1,h2⟩:=entIs_iff.1 hf
  exact roGet_first hlt hb h1 h2
 ·have hn:∀ j,j < l.length→entIs (l.getD j Ent.zero) (entOf o c)=false:=fun j hj => by
   rw [Bool.eq_false_iff]
   exact fun hs => h ⟨j,hj,hs⟩
  exact .inl ⟨roFirst_no hn,roGet_none hn⟩

def set5 (w:World) (B:Nat) (a1 a2 a3 a4 a5:Value):World:=setMany w [(⟨B,0,none⟩,a1),(⟨B,1,none⟩,a2),(⟨B,2,none⟩,a3),(⟨B,3,none⟩,a4),(⟨B,4,none⟩,a5)]

theorem set5_get (w:World) (B:Nat) (a1 a2 a3 a4 a5:Value) {i:It} (h:ItAt w B i) :
  let x:=set5 w B a1 a2 a3 a4 a5
  x.cell? ⟨B,0,none⟩=some a1∧x.cell? ⟨B,1,none⟩=some a2∧x.cell? ⟨B,2,none⟩=some a3∧x.cell? ⟨B,3,none⟩=some a4∧x.cell? ⟨B,4,none⟩=some a5:=by
 obtain⟨h1,h2,h3,h4,h5⟩:=h
 have hm:=setMany_get [(⟨B,0,none⟩,a1),(⟨B,1,none⟩,a2),(⟨B,2,none⟩,a3),(⟨B,3,none⟩,a4),(⟨B,4,none⟩,a5)] w (by simp) (by simp [h1,h2,h3,h4,h5])
 exact⟨hm (_,_) (by simp),hm (_,_) (by simp),hm (_,_) (by simp),hm (_,_) (by simp),hm (_,_) (by simp)⟩

theorem set5_below {w w1:World} (h:Below w.heap.size w w1) (B:Nat) (hB:w.heap.size≤B) (a1 a2 a3 a4 a5:Value):Below w.heap.size w (set5 w1 B a1 a2 a3 a4 a5) :=
 setMany_below _ h (by simp [hB])

theorem get8_any {w:World} {v:Value} {l:List Ent} (hv:Ents w v l) (o c:List UInt8) :
  Calls Tryz.prog 81 #[v,.string ⟨o.toArray⟩,.string ⟨c.toArray⟩] w fun e w' => e=.returned (itV (roGet l o c))∧Below w.heap.size w w':=by
 have B0:Hid (Below w.heap.size w (w.alloc (.cells #[.bool false,.bool false,.bool false,.bool false,.bool false] 115))):=hD ((Below.refl _ _).alloc (Nat.le_refl _) _)
 have HZ:=hD (itAt_made w ⟨false,false,false,false,false⟩ w.heap.size rfl)
 have hzf:∀ i,(w.alloc (.cells #[.bool false,.bool false,.bool false,.bool false,.bool false] 115)).frozen? ⟨w.heap.size,i,none⟩=false:=fun i => by simp
 have HF:=hD hzf
 have HV:=hD (hv.later B0.out)
 have hE:=entry_any o c
 have HE:=hD hE
 obtain⟨a,cap,rfl,hm⟩:=hv.open'
 clear hv hE hzf
 rcases roFirst_get l o c with ⟨h1,h2⟩ | ⟨k,hk,h1,h2⟩
 ·have HR:Hid (roGet l o c=It.zero):=h2
  have H1:=hD h1
  clear h1 h2
  go_enter Tryz.func81,Tryz.ntmps81
  go_wp2_with fail
  refine (HE.out _).mono ?_
  rintro e w1 ⟨rfl,b1⟩
  go_wp2_with fail
  refine (first_any (HV.out.later b1) o c false false false false false).mono ?_
  rw [show roFirst l ⟨o,c,⟨false,false,false,false,false⟩⟩=(0,false) from H1.out]
  rintro e w2 ⟨rfl,b2⟩
  have b3:=below2S b1 b2
  have B3:=hD (below2S B0.out b3)
  have Z2:=hD (HZ.out.later b3)
  obtain⟨z0,z1,z2,z3,z4⟩:=Z2.out
  have f0:=(b3.frozen (p:=⟨w.heap.size,0,none⟩) (by show w.heap.size < _; simp)).trans (HF.out 0)
  have f1:=(b3.frozen (p:=⟨w.heap.size,1,none⟩) (by show w.heap.size < _; simp)).trans (HF.out 1)
  have f2:=(b3.frozen (p:=⟨w.heap.size,2,none⟩) (by show w.heap.size < _; simp)).trans (HF.out 2)
  have f3:=(b3.frozen (p:=⟨w.heap.size,3,none⟩) (by show w.heap.size < _; simp)).trans (HF.out 3)
  have f4:=(b3.frozen (p:=⟨w.heap.size,4,none⟩) (by show w.heap.size < _; simp)).trans (HF.out 4)
  simp only at z0 z1 z2 z3 z4
  clear b1 b2 b3
  go_wp2_with fail
  obtain⟨r0,r1,r2,r3,r4⟩:=set5_get w2 w.heap.size (.bool false) (.bool false) (.bool false) (.bool false) (.bool false) Z2.out
  have hB:=set5_below B3.out w.heap.size (Nat.le_refl _) (.bool false) (.bool false) (.bool false) (.bool false) (.bool false)
  show bodyPost _ _ _ _ _ (set5 w2 w.heap.size (.bool false) (.bool false) (.bool false) (.bool false) (.bool false))
  exact bodyPost_ret (v:=itV ⟨false,false,false,false,false⟩) (by simp [results,Tryz.results81,go_sem,itV,r0,r1,r2,r3,r4]) rfl ⟨by rw [HR.out]; rfl,hB⟩
 ·obtain⟨⟨eo,ec,⟨i1,i2,i3,i4,i5⟩⟩,hr⟩ : ∃ r,l.getD k Ent.zero=r:=⟨_,rfl⟩
  rw [hr] at h2
  have HR:Hid (roGet l o c=⟨i1,i2,i3,i4,i5⟩):=h2
  have H1:=hD h1
  have HE2:=hD hr
  have hkI:(k:Int) < (l.length:Int):=by omega
  have hk0:(0:Int)≤(k:Int):=by omega
  clear h1 h2 hr
  go_enter Tryz.func81,Tryz.ntmps81
  go_wp2_with fail
  refine (HE.out _).mono ?_
  rintro e w1 ⟨rfl,b1⟩
  go_wp2_with fail
  refine (first_any (HV.out.later b1) o c false false false false false).mono ?_
  rw [show roFirst l ⟨o,c,⟨false,false,false,false,false⟩⟩=(k,true) from H1.out]
  rintro e w2 ⟨rfl,b2⟩
  have b3:=below2S b1 b2
  have B3:=hD (below2S B0.out b3)
  have Z2:=hD (HZ.out.later b3)
  obtain⟨z0,z1,z2,z3,z4⟩:=Z2.out
  have f0:=(b3.frozen (p:=⟨w.heap.size,0,none⟩) (by show w.heap.size < _; simp)).trans (HF.out 0)
  have f1:=(b3.frozen (p:=⟨w.heap.size,1,none⟩) (by show w.heap.size < _; simp)).trans (HF.out 1)
  have f2:=(b3.frozen (p:=⟨w.heap.size,2,none⟩) (by show w.heap.size < _; simp)).trans (HF.out 2)
  have f3:=(b3.frozen (p:=⟨w.heap.size,3,none⟩) (by show w.heap.size < _; simp)).trans (HF.out 3)
  have f4:=(b3.frozen (p:=⟨w.heap.size,4,none⟩) (by show w.heap.size < _; simp)).trans (HF.out 4)
  simp only at z0 z1 z2 z3 z4
  obtain⟨b,off,rfl,g0,g1,g2,g3,g4,g5,g6⟩:=HV.out.row b3 k hk
  rw [HE2.out] at g0 g1 g2 g3 g4 g5 g6
  simp only at g0 g1 g2 g3 g4 g5 g6
  clear b1 b2 b3
  go_wp2_with fail
  obtain⟨r0,r1,r2,r3,r4⟩:=set5_get w2 w.heap.size (.bool i1) (.bool i2) (.bool i3) (.bool i4) (.bool i5) Z2.out
  have hB:=set5_below B3.out w.heap.size (Nat.le_refl _) (.bool i1) (.bool i2) (.bool i3) (.bool i4) (.bool i5)
  show bodyPost _ _ _ _ _ (set5 w2 w.heap.size (.bool i1) (.bool i2) (.bool i3) (.bool i4) (.bool i5))
  exact bodyPost_ret (v:=itV ⟨i1,i2,i3,i4,i5⟩) (by simp [results,Tryz.results81,go_sem,itV,r0,r1,r2,r3,r4]) rfl ⟨by rw [HR.out],hB⟩

theorem get8_eq {w:World} {v:Value} {l:List Ent} (hv:Ents w v l) (o c:List UInt8) {i1 i2 i3 i4 i5:Bool} (h:Hid (roGet l o c=⟨i1,i2,i3,i4,i5⟩)) :
  Calls Tryz.prog 81 #[v,.string ⟨o.toArray⟩,.string ⟨c.toArray⟩] w fun e w' => e=.returned (.agg #[.bool i1,.bool i2,.bool i3,.bool i4,.bool i5])∧Below w.heap.size w w':=by
 have:=get8_any hv o c
 rw [h.out] at this
 exact this

theorem sees8_any {w:World} {v:Value} {l:List Ent} (hv:Ents w v l) (o c:List UInt8) :
  Calls Tryz.prog 29 #[v,.string ⟨o.toArray⟩,.string ⟨c.toArray⟩] w fun e w' => e=.returned (.bool (roSees l o c))∧Below w.heap.size w w':=by
 obtain⟨⟨i1,i2,i3,i4,i5⟩,hi⟩ : ∃ i,roGet l o c=i:=⟨_,rfl⟩
 obtain⟨⟨j1,j2,j3,j4,j5⟩,hj⟩ : ∃ j,roGet l c o=j:=⟨_,rfl⟩
 obtain⟨r,hr⟩ : ∃ r,suSees ⟨i1,i2,i3,i4,i5⟩ ⟨j1,j2,j3,j4,j5⟩=r:=⟨_,rfl⟩
 have HR:Hid (roSees l o c=r):=by show _=_; unfold roSees; rw [hi,hj,hr]
 have HV:=hD hv
 have HI:=hD hi
 have HJ:=hD hj
 have HS:=hD (ssees_eq i1 i2 i3 i4 i5 j1 j2 j3 j4 j5 hr)
 obtain⟨a,cap,rfl,_⟩:=hv.open'
 rw [HR.out]
 clear hi hj hr hv
 go_enter Tryz.func29,Tryz.ntmps29
 go_wp2_with fail
 refine (get8_eq HV.out o c HI).mono ?_
 rintro e w1 ⟨rfl,b⟩
 have B1:=hD b
 clear b
 go_wp2_with fail
 refine (get8_eq (HV.out.later B1.out) c o HJ).mono ?_
 rintro e w2 ⟨rfl,b⟩
 have B2:=hD (below2S B1.out b)
 clear b
 go_wp2_with fail
 refine (HS.out _).mono ?_
 rintro e w3 ⟨rfl,b⟩
 have B3:=hD (below2S B2.out b)
 clear b
 go_wp2_with fail
 go_ret
 exact⟨rfl,B3.out⟩

end Go.Proofs.YtphfinlfabklmaaGreat

end

section

namespace Go.Proofs.YtphfinlfabklmaaGreat
open Go.RowKit

theorem regrown_belowP {w w':World} (h:∃ p:Regrown,w'=Sort.grow (redrawn w p.d) p.os):Below w.heap.size w w':=by
 obtain⟨p,rfl⟩:=h
 exact below_regrown _ _ _

theorem cells7_regrown {w:World} {b o:Nat} {e:Ent} (h:Cells7 w b o e) :
  (∀ d os,(Sort.grow (redrawn w d) os).cell? ⟨b,o,none⟩=some (.string ⟨e.o.toArray⟩))∧(∀ d os,(Sort.grow (redrawn w d) os).cell? ⟨b,o+1,none⟩=some (.string ⟨e.c.toArray⟩)) ∧
  (∀ d os,(Sort.grow (redrawn w d) os).cell? ⟨b,o+2,none⟩=some (.bool e.it.to))∧(∀ d os,(Sort.grow (redrawn w d) os).cell? ⟨b,o+3,none⟩=some (.bool e.it.fr)) ∧
  (∀ d os,(Sort.grow (redrawn w d) os).cell? ⟨b,o+4,none⟩=some (.bool e.it.out))∧(∀ d os,(Sort.grow (redrawn w d) os).cell? ⟨b,o+5,none⟩=some (.bool e.it.inn)) ∧
  (∀ d os,(Sort.grow (redrawn w d) os).cell? ⟨b,o+6,none⟩=some (.bool e.it.bl)) :=
 ⟨fun d os => cell_regrown h.1 d os,fun d os => cell_regrown h.2.1 d os,fun d os => cell_regrown h.2.2.1 d os,fun d os => cell_regrown h.2.2.2.1 d os,fun d os => cell_regrown h.2.2.2.2.1 d os,fun d os => cell_regrown h.2.2.2.2.2.1 d os,fun d os => cell_regrown h.2.2.2.2.2.2 d os⟩

theorem place_any {w:World} {v:Value} {l:List Ent} (hv:Ents w v l) (hr:Rise l) (xo xc:List UInt8) (x1 x2 x3 x4 x5:Bool) {p:Nat} (hp:entPlace l ⟨xo,xc,⟨x1,x2,x3,x4,x5⟩⟩=p) {q:Bool}
  (hq:(decide (p < l.length) && entIs (l.getD p Ent.zero) ⟨xo,xc,⟨x1,x2,x3,x4,x5⟩⟩)=q) :
  Calls Tryz.prog 190 #[v,.agg #[.string ⟨xo.toArray⟩,.string ⟨xc.toArray⟩,.bool x1,.bool x2,.bool x3,.bool x4,.bool x5],.func (.func 125) #[] #[]] w fun e w' =>
   e=.returned (.tuple #[.int .i64 p,.bool q])∧Below w.heap.size w w':=by
 have HV:=hD hv
 have HS:=hD fun (h:Nat) (hh:h < l.length) => entPlace_spec hr ⟨xo,xc,⟨x1,x2,x3,x4,x5⟩⟩ hh
 have hpl:=entPlace_le l ⟨xo,xc,⟨x1,x2,x3,x4,x5⟩⟩
 rw [hp] at HS hpl
 obtain⟨a,cap,rfl,hm⟩:=hv.open'
 have HX:=hD (cells7_made w ⟨xo,xc,⟨x1,x2,x3,x4,x5⟩⟩ 126)
 have B0:Hid (Below w.heap.size w (w.alloc (.cells #[.string ⟨xo.toArray⟩,.string ⟨xc.toArray⟩,.bool x1,.bool x2,.bool x3,.bool x4,.bool x5] 126))):=hD ((Below.refl _ _).alloc (Nat.le_refl _) _)
 have HQ:=hD hq
 clear hv hp hr hq
 go_enter Tryz.func190,Tryz.ntmps190
 go_wp2_with fail
 go_loopw [8,9] (fun i j wr => ∃ f t:Nat,f≤p∧p≤t∧t≤l.length∧i=.int .i64 f∧j=.int .i64 t∧Hid (Below w.heap.size w wr)∧Hid (Cells7 wr w.heap.size 0 ⟨xo,xc,⟨x1,x2,x3,x4,x5⟩⟩)) (fun i j _ => (intOf j).toNat - (intOf i).toNat)
 case atStart => exact⟨0,l.length,by omega,hpl,by omega,rfl,rfl,B0,HX⟩
 case round =>
  obtain⟨f,t,hfp,hpt,htl,rfl,rfl,HB,HC⟩:=hrel
  by_cases hlt:f < t
  ·have hhl:f+(t - f) / 2 < l.length:=by omega
   obtain⟨b,off,rfl,h7⟩:=HV.out.row HB.out (f+(t - f) / 2) hhl
   obtain⟨⟨eo,ec,⟨i1,i2,i3,i4,i5⟩⟩,hr⟩ : ∃ r,l.getD (f+(t - f) / 2) Ent.zero=r:=⟨_,rfl⟩
   rw [hr] at h7
   obtain⟨g0,g1,g2,g3,g4,g5,g6⟩:=cells7_regrown h7
   obtain⟨c0,c1,c2,c3,c4,c5,c6⟩:=cells7_regrown HC.out
   simp only [Nat.zero_add] at g0 g1 g2 g3 g4 g5 g6 c0 c1 c2 c3 c4 c5 c6
   have HCmp:=hD (rcompare_any eo ec xo xc i1 i2 i3 i4 i5 x1 x2 x3 x4 x5)
   obtain⟨n,hn⟩ : ∃ n,entI ⟨eo,ec,⟨i1,i2,i3,i4,i5⟩⟩ ⟨xo,xc,⟨x1,x2,x3,x4,x5⟩⟩=n:=⟨_,rfl⟩
   have hsp:=HS.out _ hhl
   rw [hr] at hsp
   have hl:=entI_lt ⟨eo,ec,⟨i1,i2,i3,i4,i5⟩⟩ ⟨xo,xc,⟨x1,x2,x3,x4,x5⟩⟩
   rw [hn] at hl HCmp
   clear hn hr h7
   cases hc:entLt ⟨eo,ec,⟨i1,i2,i3,i4,i5⟩⟩ ⟨xo,xc,⟨x1,x2,x3,x4,x5⟩⟩ with
   | true =>
    rw [hc] at hsp hl
    have hn0:n < 0:=by rw [hl]
    have tn:decide (n < 0)=true:=by simpa using hn0
    have hlp:f+(t - f) / 2 < p:=by simpa using hsp.symm
    clear hc hsp hl hn0
    go_wp2_with fail
    refine wp_region_quiet_below (by kernel_rfl) (by kernel_rfl) ?_
    repeat (go_big_quiet_step (with_reducible exact rgB HCmp.out _ _ _))
    refine wpQuiet_nil ?_
    intro w5 hw5
    have B5:=hD (below2S HB.out (regrown_belowP hw5))
    have C5:=hD (HC.out.later (regrown_belowP hw5))
    clear hw5 g0 g1 g2 g3 g4 g5 g6 c0 c1 c2 c3 c4 c5 c6
    go_wp2_with fail
    go_roundw
    case rel => exact⟨f+(t - f) / 2+1,t,by omega,hpt,htl,by go_num,rfl,B5,C5⟩
    case measure => simp [intOf]; omega
   | false =>
    rw [hc] at hsp hl
    have hn0:¬ n < 0:=by rw [hl]; decide
    have tn:decide (n < 0)=false:=by simpa using hn0
    have hlp:¬ f+(t - f) / 2 < p:=by simpa using hsp.symm
    clear hc hsp hl hn0
    go_wp2_with fail
    refine wp_region_quiet_below (by kernel_rfl) (by kernel_rfl) ?_
    repeat (go_big_quiet_step (with_reducible exact rgB HCmp.out _ _ _))
    refine wpQuiet_nil ?_
    intro w5 hw5
    have B5:=hD (below2S HB.out (regrown_belowP hw5))
    have C5:=hD (HC.out.later (regrown_belowP hw5))
    clear hw5 g0 g1 g2 g3 g4 g5 g6 c0 c1 c2 c3 c4 c5 c6
    go_wp2_with fail
    go_roundw
    case rel => exact⟨f,f+(t - f) / 2,hfp,by omega,by omega,rfl,by go_num,B5,C5⟩
    case measure => simp [intOf]; omega
  ·obtain rfl:f=t:=by omega
   obtain rfl:f=p:=by omega
   by_cases hin:f < l.length
   ·obtain⟨b,off,rfl,h7⟩:=HV.out.row HB.out f hin
    obtain⟨⟨eo,ec,⟨i1,i2,i3,i4,i5⟩⟩,hr⟩ : ∃ r,l.getD f Ent.zero=r:=⟨_,rfl⟩
    rw [hr] at h7
    obtain⟨g0,g1,g2,g3,g4,g5,g6⟩:=cells7_regrown h7
    obtain⟨c0,c1,c2,c3,c4,c5,c6⟩:=cells7_regrown HC.out
    simp only [Nat.zero_add] at g0 g1 g2 g3 g4 g5 g6 c0 c1 c2 c3 c4 c5 c6
    have HCmp:=hD (rcompare_any eo ec xo xc i1 i2 i3 i4 i5 x1 x2 x3 x4 x5)
    obtain⟨n,hn⟩ : ∃ n,entI ⟨eo,ec,⟨i1,i2,i3,i4,i5⟩⟩ ⟨xo,xc,⟨x1,x2,x3,x4,x5⟩⟩=n:=⟨_,rfl⟩
    have hq:=HQ.out
    rw [hr,show decide (f < l.length)=true by simpa using hin,Bool.true_and] at hq
    have tq:(n == 0)=q:=by
     cases q with
     | true => rw [← hn]; exact entI_on hq
     | false => rw [← hn]; exact entI_off hq
    rw [hn] at HCmp
    have tin:decide ((f:Int) < (l.length:Int))=true:=by simp; omega
    clear hn hr h7 hq HQ
    go_wp2_with fail
    refine wp_region_quiet_below (by kernel_rfl) (by kernel_rfl) ?_
    repeat (go_big_quiet_step (with_reducible exact rgB HCmp.out _ _ _))
    refine wpQuiet_nil ?_
    intro w5 hw5
    have B5:=hD (below2S HB.out (regrown_belowP hw5))
    clear hw5 g0 g1 g2 g3 g4 g5 g6 c0 c1 c2 c3 c4 c5 c6
    go_wp2_with fail
    go_ret2
    exact⟨rfl,B5.out⟩
   ·have hq:=HQ.out
    rw [show decide (f < l.length)=false by simpa using hin,Bool.false_and] at hq
    subst hq
    have tin:decide ((f:Int) < (l.length:Int))=false:=by simp; omega
    clear HQ
    go_wp2_with fail
    refine wp_region_quiet_below (by kernel_rfl) (by kernel_rfl) ?_
    repeat (go_big_quiet_step (fail))
    refine wpQuiet_nil ?_
    intro w5 hw5
    have B5:=hD (below2S HB.out (regrown_belowP hw5))
    clear hw5
    go_wp2_with fail
    go_ret2
    exact⟨rfl,B5.out⟩

end Go.Proofs.YtphfinlfabklmaaGreat

end

section

namespace Go.Proofs.YtphfinlfabklmaaGreat
open Go.RowKit

def set7 (w:World) (B:Nat) (a0 a1 a2 a3 a4 a5 a6:Value):World:=setMany w [(⟨B,0,none⟩,a0),(⟨B,1,none⟩,a1),(⟨B,2,none⟩,a2),(⟨B,3,none⟩,a3),(⟨B,4,none⟩,a4),(⟨B,5,none⟩,a5),(⟨B,6,none⟩,a6)]

theorem set7_get (w:World) (B:Nat) (a0 a1 a2 a3 a4 a5 a6:Value) {u0 u1 u2 u3 u4 u5 u6:Value} (h0:w.cell? ⟨B,0,none⟩=some u0) (h1:w.cell? ⟨B,1,none⟩=some u1) (h2:w.cell? ⟨B,2,none⟩=some u2) (h3:w.cell? ⟨B,3,none⟩=some u3) (h4:w.cell? ⟨B,4,none⟩=some u4) (h5:w.cell? ⟨B,5,none⟩=some u5) (h6:w.cell? ⟨B,6,none⟩=some u6) :
  let x:=set7 w B a0 a1 a2 a3 a4 a5 a6
  x.cell? ⟨B,0,none⟩=some a0∧x.cell? ⟨B,1,none⟩=some a1∧x.cell? ⟨B,2,none⟩=some a2∧x.cell? ⟨B,3,none⟩=some a3∧x.cell? ⟨B,4,none⟩=some a4∧x.cell? ⟨B,5,none⟩=some a5∧x.cell? ⟨B,6,none⟩=some a6:=by
 have hm:=setMany_get [(⟨B,0,none⟩,a0),(⟨B,1,none⟩,a1),(⟨B,2,none⟩,a2),(⟨B,3,none⟩,a3),(⟨B,4,none⟩,a4),(⟨B,5,none⟩,a5),(⟨B,6,none⟩,a6)] w (by simp) (by simp [h0,h1,h2,h3,h4,h5,h6])
 exact⟨hm (_,_) (by simp),hm (_,_) (by simp),hm (_,_) (by simp),hm (_,_) (by simp),hm (_,_) (by simp),hm (_,_) (by simp),hm (_,_) (by simp)⟩

theorem set7_below {w w1:World} (h:Below w.heap.size w w1) (B:Nat) (hB:w.heap.size≤B) (a0 a1 a2 a3 a4 a5 a6:Value):Below w.heap.size w (set7 w1 B a0 a1 a2 a3 a4 a5 a6) :=
 setMany_below _ h (by simp [hB])

theorem find_no {w:World} {v:Value} {l:List Ent} (hv:Ents w v l) (hr:Rise l) (xo xc:List UInt8) (x1 x2 x3 x4 x5:Bool) (hno:(l.any fun e => entIs e ⟨xo,xc,⟨x1,x2,x3,x4,x5⟩⟩)=false) :
  Calls Tryz.prog 126 #[v,.agg #[.string ⟨xo.toArray⟩,.string ⟨xc.toArray⟩,.bool x1,.bool x2,.bool x3,.bool x4,.bool x5]] w fun e w' => e=.returned (.tuple #[.agg #[.string ⟨xo.toArray⟩,.string ⟨xc.toArray⟩,.bool x1,.bool x2,.bool x3,.bool x4,.bool x5],.bool false])∧Below w.heap.size w w':=by
 have B0:Hid (Below w.heap.size w ((w.alloc (.cells #[.string ⟨xo.toArray⟩,.string ⟨xc.toArray⟩,.bool x1,.bool x2,.bool x3,.bool x4,.bool x5] 126)).alloc (.cells #[.string ⟨#[]⟩,.string ⟨#[]⟩,.bool false,.bool false,.bool false,.bool false,.bool false] 126))):=hD (((Below.refl _ _).alloc (Nat.le_refl _) _).alloc (by simp) _)
 have hq:=(entPlace_there hr ⟨xo,xc,⟨x1,x2,x3,x4,x5⟩⟩).trans hno
 have HV:=hD (hv.later B0.out)
 have HZ:=hD (show Cells7 ((w.alloc (.cells #[.string ⟨xo.toArray⟩,.string ⟨xc.toArray⟩,.bool x1,.bool x2,.bool x3,.bool x4,.bool x5] 126)).alloc (.cells #[.string ⟨#[]⟩,.string ⟨#[]⟩,.bool false,.bool false,.bool false,.bool false,.bool false] 126)) (w.heap.size+1) 0 Ent.zero by
  refine ⟨?_,?_,?_,?_,?_,?_,?_⟩ <;> (rw [World.cell?_alloc_at _ _ _ _ (by simp)]; rfl))
 have HX:=hD ((cells7_made w ⟨xo,xc,⟨x1,x2,x3,x4,x5⟩⟩ 126).later ((Below.refl _ _).alloc (Nat.le_refl _) (.cells #[.string ⟨#[]⟩,.string ⟨#[]⟩,.bool false,.bool false,.bool false,.bool false,.bool false] 126)))
 have HF:Hid (∀ i,((w.alloc (.cells #[.string ⟨xo.toArray⟩,.string ⟨xc.toArray⟩,.bool x1,.bool x2,.bool x3,.bool x4,.bool x5] 126)).alloc (.cells #[.string ⟨#[]⟩,.string ⟨#[]⟩,.bool false,.bool false,.bool false,.bool false,.bool false] 126)).frozen? ⟨w.heap.size+1,i,none⟩=false):=hD fun i => by simp
 obtain⟨a,cap,rfl,hm⟩:=hv.open'
 go_enter Tryz.func126,Tryz.ntmps126
 go_wp2_with fail
 refine (place_any HV.out hr xo xc x1 x2 x3 x4 x5 rfl hq).mono ?_
 rintro e w1 ⟨rfl,b⟩
 have B1:=hD (below2S B0.out b)
 obtain⟨z0,z1,z2,z3,z4,z5,z6⟩:=HZ.out.later b
 obtain⟨c0,c1,c2,c3,c4,c5,c6⟩:=HX.out.later b
 have f0:=(b.frozen (p:=⟨w.heap.size+1,0,none⟩) (by show w.heap.size+1 < _; simp)).trans (HF.out 0)
 have f1:=(b.frozen (p:=⟨w.heap.size+1,1,none⟩) (by show w.heap.size+1 < _; simp)).trans (HF.out 1)
 have f2:=(b.frozen (p:=⟨w.heap.size+1,2,none⟩) (by show w.heap.size+1 < _; simp)).trans (HF.out 2)
 have f3:=(b.frozen (p:=⟨w.heap.size+1,3,none⟩) (by show w.heap.size+1 < _; simp)).trans (HF.out 3)
 have f4:=(b.frozen (p:=⟨w.heap.size+1,4,none⟩) (by show w.heap.size+1 < _; simp)).trans (HF.out 4)
 have f5:=(b.frozen (p:=⟨w.heap.size+1,5,none⟩) (by show w.heap.size+1 < _; simp)).trans (HF.out 5)
 have f6:=(b.frozen (p:=⟨w.heap.size+1,6,none⟩) (by show w.heap.size+1 < _; simp)).trans (HF.out 6)
 simp only [Nat.zero_add,Ent.zero,It.zero] at z0 z1 z2 z3 z4 z5 z6 c0 c1 c2 c3 c4 c5 c6
 clear b
 go_wp2_with fail
 obtain⟨r0,r1,r2,r3,r4,r5,r6⟩:=set7_get w1 (w.heap.size+1) (.string ⟨xo.toArray⟩) (.string ⟨xc.toArray⟩) (.bool x1) (.bool x2) (.bool x3) (.bool x4) (.bool x5) z0 z1 z2 z3 z4 z5 z6
 have hB:=set7_below B1.out (w.heap.size+1) (by omega) (.string ⟨xo.toArray⟩) (.string ⟨xc.toArray⟩) (.bool x1) (.bool x2) (.bool x3) (.bool x4) (.bool x5)
 show bodyPost _ _ _ _ _ (set7 w1 (w.heap.size+1) (.string ⟨xo.toArray⟩) (.string ⟨xc.toArray⟩) (.bool x1) (.bool x2) (.bool x3) (.bool x4) (.bool x5))
 exact bodyPost_ret (v:=.tuple #[.agg #[.string ⟨xo.toArray⟩,.string ⟨xc.toArray⟩,.bool x1,.bool x2,.bool x3,.bool x4,.bool x5],.bool false]) (by simp [results,Tryz.results126,go_sem,r0,r1,r2,r3,r4,r5,r6]) rfl ⟨rfl,hB⟩

theorem find_yes {w:World} {v:Value} {l:List Ent} (hv:Ents w v l) (hr:Rise l) (xo xc:List UInt8) (x1 x2 x3 x4 x5:Bool) {eo ec:List UInt8} {i1 i2 i3 i4 i5:Bool} (hlt:entPlace l ⟨xo,xc,⟨x1,x2,x3,x4,x5⟩⟩ < l.length) (he:l.getD (entPlace l ⟨xo,xc,⟨x1,x2,x3,x4,x5⟩⟩) Ent.zero=⟨eo,ec,⟨i1,i2,i3,i4,i5⟩⟩) (hs:entIs ⟨eo,ec,⟨i1,i2,i3,i4,i5⟩⟩ ⟨xo,xc,⟨x1,x2,x3,x4,x5⟩⟩=true) :
  Calls Tryz.prog 126 #[v,.agg #[.string ⟨xo.toArray⟩,.string ⟨xc.toArray⟩,.bool x1,.bool x2,.bool x3,.bool x4,.bool x5]] w fun e w' => e=.returned (.tuple #[.agg #[.string ⟨eo.toArray⟩,.string ⟨ec.toArray⟩,.bool i1,.bool i2,.bool i3,.bool i4,.bool i5],.bool true])∧Below w.heap.size w w':=by
 have B0:Hid (Below w.heap.size w ((w.alloc (.cells #[.string ⟨xo.toArray⟩,.string ⟨xc.toArray⟩,.bool x1,.bool x2,.bool x3,.bool x4,.bool x5] 126)).alloc (.cells #[.string ⟨#[]⟩,.string ⟨#[]⟩,.bool false,.bool false,.bool false,.bool false,.bool false] 126))):=hD (((Below.refl _ _).alloc (Nat.le_refl _) _).alloc (by simp) _)
 have hq:(decide (entPlace l ⟨xo,xc,⟨x1,x2,x3,x4,x5⟩⟩ < l.length) && entIs (l.getD (entPlace l ⟨xo,xc,⟨x1,x2,x3,x4,x5⟩⟩) Ent.zero) ⟨xo,xc,⟨x1,x2,x3,x4,x5⟩⟩)=true:=by rw [he,hs]; simpa using hlt
 have HV:=hD (hv.later B0.out)
 have HZ:=hD (show Cells7 ((w.alloc (.cells #[.string ⟨xo.toArray⟩,.string ⟨xc.toArray⟩,.bool x1,.bool x2,.bool x3,.bool x4,.bool x5] 126)).alloc (.cells #[.string ⟨#[]⟩,.string ⟨#[]⟩,.bool false,.bool false,.bool false,.bool false,.bool false] 126)) (w.heap.size+1) 0 Ent.zero by
  refine ⟨?_,?_,?_,?_,?_,?_,?_⟩ <;> (rw [World.cell?_alloc_at _ _ _ _ (by simp)]; rfl))
 have HX:=hD ((cells7_made w ⟨xo,xc,⟨x1,x2,x3,x4,x5⟩⟩ 126).later ((Below.refl _ _).alloc (Nat.le_refl _) (.cells #[.string ⟨#[]⟩,.string ⟨#[]⟩,.bool false,.bool false,.bool false,.bool false,.bool false] 126)))
 have HF:Hid (∀ i,((w.alloc (.cells #[.string ⟨xo.toArray⟩,.string ⟨xc.toArray⟩,.bool x1,.bool x2,.bool x3,.bool x4,.bool x5] 126)).alloc (.cells #[.string ⟨#[]⟩,.string ⟨#[]⟩,.bool false,.bool false,.bool false,.bool false,.bool false] 126)).frozen? ⟨w.heap.size+1,i,none⟩=false):=hD fun i => by simp
 obtain⟨a,cap,rfl,hm⟩:=hv.open'
 go_enter Tryz.func126,Tryz.ntmps126
 go_wp2_with fail
 refine (place_any HV.out hr xo xc x1 x2 x3 x4 x5 rfl hq).mono ?_
 rintro e w1 ⟨rfl,b⟩
 have B1:=hD (below2S B0.out b)
 obtain⟨z0,z1,z2,z3,z4,z5,z6⟩:=HZ.out.later b
 obtain⟨c0,c1,c2,c3,c4,c5,c6⟩:=HX.out.later b
 have f0:=(b.frozen (p:=⟨w.heap.size+1,0,none⟩) (by show w.heap.size+1 < _; simp)).trans (HF.out 0)
 have f1:=(b.frozen (p:=⟨w.heap.size+1,1,none⟩) (by show w.heap.size+1 < _; simp)).trans (HF.out 1)
 have f2:=(b.frozen (p:=⟨w.heap.size+1,2,none⟩) (by show w.heap.size+1 < _; simp)).trans (HF.out 2)
 have f3:=(b.frozen (p:=⟨w.heap.size+1,3,none⟩) (by show w.heap.size+1 < _; simp)).trans (HF.out 3)
 have f4:=(b.frozen (p:=⟨w.heap.size+1,4,none⟩) (by show w.heap.size+1 < _; simp)).trans (HF.out 4)
 have f5:=(b.frozen (p:=⟨w.heap.size+1,5,none⟩) (by show w.heap.size+1 < _; simp)).trans (HF.out 5)
 have f6:=(b.frozen (p:=⟨w.heap.size+1,6,none⟩) (by show w.heap.size+1 < _; simp)).trans (HF.out 6)
 simp only [Nat.zero_add,Ent.zero,It.zero] at z0 z1 z2 z3 z4 z5 z6 c0 c1 c2 c3 c4 c5 c6
 obtain⟨bb,off,rfl,g0,g1,g2,g3,g4,g5,g6⟩:=HV.out.row b _ hlt
 rw [he] at g0 g1 g2 g3 g4 g5 g6
 simp only at g0 g1 g2 g3 g4 g5 g6
 obtain⟨p,hp⟩ : ∃ p,entPlace l ⟨xo,xc,⟨x1,x2,x3,x4,x5⟩⟩=p:=⟨_,rfl⟩
 rw [hp] at g0 g1 g2 g3 g4 g5 g6 hlt ⊢
 have hk0:(0:Int)≤(p:Int):=by omega
 have hk1:(p:Int) < (l.length:Int):=by omega
 clear b hp hq he hs
 go_wp2_with fail
 obtain⟨r0,r1,r2,r3,r4,r5,r6⟩:=set7_get w1 (w.heap.size+1) (.string ⟨eo.toArray⟩) (.string ⟨ec.toArray⟩) (.bool i1) (.bool i2) (.bool i3) (.bool i4) (.bool i5) z0 z1 z2 z3 z4 z5 z6
 have hB:=set7_below B1.out (w.heap.size+1) (by omega) (.string ⟨eo.toArray⟩) (.string ⟨ec.toArray⟩) (.bool i1) (.bool i2) (.bool i3) (.bool i4) (.bool i5)
 show bodyPost _ _ _ _ _ (set7 w1 (w.heap.size+1) (.string ⟨eo.toArray⟩) (.string ⟨ec.toArray⟩) (.bool i1) (.bool i2) (.bool i3) (.bool i4) (.bool i5))
 exact bodyPost_ret (v:=.tuple #[.agg #[.string ⟨eo.toArray⟩,.string ⟨ec.toArray⟩,.bool i1,.bool i2,.bool i3,.bool i4,.bool i5],.bool true]) (by simp [results,Tryz.results126,go_sem,r0,r1,r2,r3,r4,r5,r6]) rfl ⟨rfl,hB⟩

end Go.Proofs.YtphfinlfabklmaaGreat

end

section

namespace Go.Proofs.YtphfinlfabklmaaGreat
open Go.RowKit

theorem Ents.rdS {w:World} {v:Value} {l:List Ent} (h:Ents w v l):RdS entVals 7 Ent.zero w v l:=by
 obtain⟨a,cap,h1,h2,h3,h4,h5⟩:=h
 refine ⟨a,cap,h1,h2,h3,h4,?_⟩
 rcases h5 with h5 | ⟨b,off,e,hlt,hc⟩
 ·exact .inl h5
 ·exact .inr ⟨b,off,e,hlt,fun i hi => cells7_at.1 (hc i hi)⟩

theorem RdS.ents {w:World} {v:Value} {l:List Ent} (h:RdS entVals 7 Ent.zero w v l):Ents w v l:=by
 obtain⟨a,cap,h1,h2,h3,h4,h5⟩:=h
 refine ⟨a,cap,h1,h2,h3,h4,?_⟩
 rcases h5 with h5 | ⟨b,off,e,hlt,hc⟩
 ·exact .inl h5
 ·exact .inr ⟨b,off,e,hlt,fun i hi => cells7_at.2 (hc i hi)⟩

theorem wo1_any {w:World} {B:Nat} {ko kc:List UInt8} {k1 k2 k3 k4 k5:Bool} (hk:Cells7 w B 0 ⟨ko,kc,⟨k1,k2,k3,k4,k5⟩⟩) (xo xc:List UInt8) (x1 x2 x3 x4 x5:Bool) {r:Bool} (h:Hid (entIs ⟨xo,xc,⟨x1,x2,x3,x4,x5⟩⟩ ⟨ko,kc,⟨k1,k2,k3,k4,k5⟩⟩=r)) :
  Calls Tryz.prog 198 #[.agg #[.string ⟨xo.toArray⟩,.string ⟨xc.toArray⟩,.bool x1,.bool x2,.bool x3,.bool x4,.bool x5],.pointer (some ⟨B,0,none⟩)] w fun e w' => e=.returned (.bool r)∧Below w.heap.size w w':=by
 have B0:=hD ((Below.refl w.heap.size w).alloc (Nat.le_refl _) (.cells #[.string ⟨xo.toArray⟩,.string ⟨xc.toArray⟩,.bool x1,.bool x2,.bool x3,.bool x4,.bool x5] 126))
 have HC:=hD (rcompare_any xo xc ko kc x1 x2 x3 x4 x5 k1 k2 k3 k4 k5)
 obtain⟨n,hn⟩ : ∃ n,entI ⟨xo,xc,⟨x1,x2,x3,x4,x5⟩⟩ ⟨ko,kc,⟨k1,k2,k3,k4,k5⟩⟩=n:=⟨_,rfl⟩
 have t1:(n == 0)=r:=by
  rw [← h.out,← hn]
  cases he:entIs ⟨xo,xc,⟨x1,x2,x3,x4,x5⟩⟩ ⟨ko,kc,⟨k1,k2,k3,k4,k5⟩⟩ with
  | true => exact entI_on he
  | false => exact entI_off he
 rw [hn] at HC
 obtain⟨c0,c1,c2,c3,c4,c5,c6⟩:=hk.later (B0.out)
 simp only [Nat.zero_add] at c0 c1 c2 c3 c4 c5 c6
 clear hn h hk
 go_enter Tryz.func198,Tryz.ntmps198
 go_wp2_with fail
 refine (HC.out _).mono ?_
 rintro e w1 ⟨rfl,b1⟩
 have B1:=hD (below2S B0.out b1)
 clear b1 c0 c1 c2 c3 c4 c5 c6
 go_wp2_with fail
 go_ret
 exact⟨rfl,B1.out⟩

def FoundE (t:List Ent) (key:Ent) (n:Int):Prop :=
 (∃ k:Nat,k < t.length∧n=k∧entIs (t.getD k Ent.zero) key=true∧∀ j,j < k→entIs (t.getD j Ent.zero) key=false)∨(n=-1∧∀ j,j < t.length→entIs (t.getD j Ent.zero) key=false)

theorem eindexf_any {w:World} {v:Value} {t:List Ent} (hv:Ents w v t) {B:Nat} {ko kc:List UInt8} {k1 k2 k3 k4 k5:Bool} (hk:Cells7 w B 0 ⟨ko,kc,⟨k1,k2,k3,k4,k5⟩⟩) :
  Calls Tryz.prog 224 #[v,.func (.func 198) #[] #[.pointer (some ⟨B,0,none⟩)]] w fun e w' => ∃ n,e=.returned (.int .i64 n)∧FoundE t ⟨ko,kc,⟨k1,k2,k3,k4,k5⟩⟩ n∧Below w.heap.size w w':=by
 have HV:=hD hv
 have HK:=hD hk
 obtain⟨a,cap,rfl,hm⟩:=hv.open'
 clear hv hk
 go_enter Tryz.func224,Tryz.ntmps224
 go_wp2_with fail
 go_loopw [8] (fun i wr => ∃ k:Nat,k≤t.length∧i=.int .i64 k∧Hid (Below w.heap.size w wr)∧Hid (∀ j,j < k→entIs (t.getD j Ent.zero) ⟨ko,kc,⟨k1,k2,k3,k4,k5⟩⟩=false)) (fun i _ => t.length - (intOf i).toNat)
 case atStart => exact⟨0,by omega,rfl,Below.refl _ _,fun j hj => absurd hj (by omega)⟩
 case round =>
  obtain⟨k,hk,rfl,HN,HA⟩:=hrel
  by_cases hlt:k < t.length
  ·obtain⟨b,off,rfl,h0,h1,h2,h3,h4,h5,h6⟩:=HV.out.row HN.out k hlt
   obtain⟨⟨xo,xc,⟨x1,x2,x3,x4,x5⟩⟩,hr⟩ : ∃ r,t.getD k Ent.zero=r:=⟨_,rfl⟩
   rw [hr] at h0 h1 h2 h3 h4 h5 h6
   have HR:=hD hr
   simp only at h0 h1 h2 h3 h4 h5 h6
   have HKr:=hD (HK.out.later HN.out)
   clear hr
   cases hc:entIs ⟨xo,xc,⟨x1,x2,x3,x4,x5⟩⟩ ⟨ko,kc,⟨k1,k2,k3,k4,k5⟩⟩ with
   | true =>
    have HD:=hD (wo1_any HKr.out xo xc x1 x2 x3 x4 x5 (hD hc))
    have HF:Hid (FoundE t ⟨ko,kc,⟨k1,k2,k3,k4,k5⟩⟩ k):=.inl ⟨k,hlt,rfl,by rw [HR.out]; exact hc,HA.out⟩
    clear hc
    go_wp2_with fail
    refine HD.out.mono ?_
    rintro e w1 ⟨rfl,hb1⟩
    have N1:=hD (below2S HN.out hb1)
    clear hb1 h0 h1 h2 h3 h4 h5 h6
    go_wp2_with fail
    go_ret
    exact⟨_,rfl,HF.out,N1.out⟩
   | false =>
    have HD:=hD (wo1_any HKr.out xo xc x1 x2 x3 x4 x5 (hD hc))
    have HA2:Hid (∀ j,j < k+1→entIs (t.getD j Ent.zero) ⟨ko,kc,⟨k1,k2,k3,k4,k5⟩⟩=false):=by
     show ∀ j,j < k+1→_
     intro j hj
     by_cases hjk:j=k
     ·rw [hjk,HR.out]; exact hc
     ·exact HA.out j (by omega)
    clear hc
    go_wp2_with fail
    refine HD.out.mono ?_
    rintro e w1 ⟨rfl,hb1⟩
    have N1:=hD (below2S HN.out hb1)
    clear hb1 h0 h1 h2 h3 h4 h5 h6
    go_wp2_with fail
    go_roundw
    case rel => exact⟨k+1,by omega,by go_num,N1,HA2⟩
    case measure => simp [intOf]; omega
  ·obtain rfl:k=t.length:=by omega
   have HF:Hid (FoundE t ⟨ko,kc,⟨k1,k2,k3,k4,k5⟩⟩ (-1)):=.inr ⟨rfl,HA.out⟩
   go_wp2_with fail
   go_ret
   exact⟨_,rfl,HF.out,HN.out⟩

theorem edrop_none {t:List Ent} {key:Ent} (h:∀ j,j < t.length→entIs (t.getD j Ent.zero) key=false):dropO entIs t key=t:=by
 unfold dropO
 rw [List.filter_eq_self]
 intro r hr
 obtain⟨k,hk,rfl⟩:=List.getElem_of_mem hr
 have:=h k hk
 rw [getD_at hk] at this
 simp [this]

theorem edrop_next {t:List Ent} {key:Ent} {j:Nat} (hj:j < t.length) {r:Ent} (hr:t.getD j Ent.zero=r) :
  (entIs r key=true→dropO entIs (t.take (j+1)) key=dropO entIs (t.take j) key)∧(entIs r key=false→dropO entIs (t.take (j+1)) key=dropO entIs (t.take j) key ++ [r]):=by
 unfold dropO
 rw [List.take_succ_eq_append_getElem hj,← getD_at hj,hr,List.filter_append]
 constructor
 ·intro h
  simp [h]
 ·intro h
  simp [h]

theorem eset_take_next {u:List Ent} {i:Nat} (hi:i < u.length) (r:Ent):(u.set i r).take (i+1)=u.take i ++ [r]:=by
 rw [List.take_set,List.set_eq_take_append_cons_drop]
 rw [if_pos (by rw [List.length_take]; omega)]
 rw [List.take_take,List.drop_of_length_le (by rw [List.length_take]; omega),show min i (i+1)=i by omega]

def EDelAt (t u:List Ent) (key:Ent) (i j:Nat):Prop:=u.length=t.length∧i < j∧j≤t.length∧u.take i=dropO entIs (t.take j) key∧u.drop j=t.drop j

theorem edelAt_start {t:List Ent} {key:Ent} {k:Nat} (hk:k < t.length) (hc:entIs (t.getD k Ent.zero) key=true) (hn:∀ j,j < k→entIs (t.getD j Ent.zero) key=false):EDelAt t t key k (k+1):=by
 refine ⟨rfl,by omega,hk,?_,rfl⟩
 rw [(edrop_next hk rfl).1 hc]
 refine (edrop_none fun j hj => ?_).symm
 rw [List.length_take] at hj
 have:(t.take k).getD j Ent.zero=t.getD j Ent.zero:=by simp [List.getD,show j < k by omega]
 rw [this]
 exact hn j (by omega)

theorem edelAt_row {t u:List Ent} {key:Ent} {i j:Nat} (h:EDelAt t u key i j) (hj:j < t.length):u.getD j Ent.zero=t.getD j Ent.zero:=by
 obtain⟨h1,_,_,_,h5⟩:=h
 have a:=List.drop_eq_getElem_cons (show j < u.length by omega)
 have b:=List.drop_eq_getElem_cons hj
 rw [h5,b] at a
 rw [getD_at hj,getD_at (show j < u.length by omega)]
 exact (List.cons.inj a).1.symm

theorem edelAt_skip {t u:List Ent} {key:Ent} {i j:Nat} (h:EDelAt t u key i j) (hj:j < t.length) {r:Ent} (hr:t.getD j Ent.zero=r) (hc:entIs r key=true):EDelAt t u key i (j+1):=by
 obtain⟨h1,h2,h3,h4,h5⟩:=h
 refine ⟨h1,by omega,hj,by rw [(edrop_next hj hr).1 hc,h4],?_⟩
 have e:∀ l:List Ent,l.drop (j+1)=(l.drop j).drop 1:=fun l => by rw [List.drop_drop]
 rw [e u,e t,h5]

theorem edelAt_keep {t u:List Ent} {key:Ent} {i j:Nat} (h:EDelAt t u key i j) (hj:j < t.length) {r:Ent} (hr:t.getD j Ent.zero=r) (hc:entIs r key=false):EDelAt t (u.set i r) key (i+1) (j+1):=by
 obtain⟨h1,h2,h3,h4,h5⟩:=h
 refine ⟨by simpa using h1,by omega,hj,by rw [eset_take_next (by omega),h4,(edrop_next hj hr).2 hc],?_⟩
 have e:∀ l:List Ent,l.drop (j+1)=(l.drop j).drop 1:=fun l => by rw [List.drop_drop]
 rw [List.drop_set,if_pos (by omega),e u,e t,h5]

def setE (w:World) (g o:Nat) (xo xc:List UInt8) (x1 x2 x3 x4 x5:Bool):World :=
 ((((((w.setCell ⟨g,o,none⟩ (.string ⟨xo.toArray⟩)).setCell ⟨g,o+1,none⟩ (.string ⟨xc.toArray⟩)).setCell ⟨g,o+2,none⟩ (.bool x1)).setCell ⟨g,o+3,none⟩ (.bool x2)).setCell ⟨g,o+4,none⟩ (.bool x3)).setCell ⟨g,o+5,none⟩ (.bool x4)).setCell ⟨g,o+6,none⟩ (.bool x5)

theorem setE_own {w:World} {base g n cap:Nat} {u:List Ent} (h:OwnS entVals 7 126 w base (.slice (some ⟨g,0,none⟩) n cap) u) {i:Nat} (hi:i < u.length) (xo xc:List UInt8) (x1 x2 x3 x4 x5:Bool) :
  OwnS entVals 7 126 (setE w g (i * 7) xo xc x1 x2 x3 x4 x5) base (.slice (some ⟨g,0,none⟩) n cap) (u.set i ⟨xo,xc,⟨x1,x2,x3,x4,x5⟩⟩):=ownS_set entOK h hi ⟨xo,xc,⟨x1,x2,x3,x4,x5⟩⟩

theorem setE_below {B g o:Nat} {w0 w:World} (h:Below B w0 w) (hB:B≤g) (xo xc:List UInt8) (x1 x2 x3 x4 x5:Bool):Below B w0 (setE w g o xo xc x1 x2 x3 x4 x5) :=
 ((((((h.setCell hB _).setCell hB _).setCell hB _).setCell hB _).setCell hB _).setCell hB _).setCell hB _

theorem edeletef_some {w:World} {base g n cap:Nat} {t:List Ent} (ho:OwnS entVals 7 126 w base (.slice (some ⟨g,0,none⟩) n cap) t) {B:Nat} {ko kc:List UInt8} {k1 k2 k3 k4 k5:Bool} (hk:Cells7 w B 0 ⟨ko,kc,⟨k1,k2,k3,k4,k5⟩⟩) (hB:B < base) (hbase:base≤w.heap.size) :
  Calls Tryz.prog 196 #[.slice (some ⟨g,0,none⟩) n cap,.func (.func 198) #[] #[.pointer (some ⟨B,0,none⟩)]] w fun e w' => ∃ v,e=.returned v∧OwnS entVals 7 126 w' base v (dropO entIs t ⟨ko,kc,⟨k1,k2,k3,k4,k5⟩⟩)∧Below base w w':=by
 have HO:=hD ho
 have HK:=hD hk
 obtain⟨hn,hbg,hgw,hnc,hcm,_⟩:=ho.head
 subst hn
 unfold maxLen at hcm
 have HI:=hD (eindexf_any (ho.rd entOK).ents hk)
 clear ho hk
 go_enter Tryz.func196,Tryz.ntmps196
 go_wp2_with fail
 refine HI.out.mono ?_
 rintro e w1 ⟨m,rfl,hf,hb1⟩
 have B1:=hD hb1
 have O1:=hD (HO.out.later hb1)
 clear hb1 HI HO
 rcases hf with ⟨k,hklt,rfl,hkc,hkn⟩ | ⟨rfl,hno⟩
 ·have HD:=hD (edelAt_start hklt hkc hkn)
  have t0:((k:Int) == -1)=false:=by simp
  clear hkc hkn
  go_wp2_with fail
  go_loopw [5,6] (fun a b wr => ∃ (i j:Nat) (u:List Ent),a=.int .i64 i∧b=.int .i64 j∧Hid (EDelAt t u ⟨ko,kc,⟨k1,k2,k3,k4,k5⟩⟩ i j)∧Hid (OwnS entVals 7 126 wr base (.slice (some ⟨g,0,none⟩) t.length cap) u)∧Hid (Below base w wr)) (fun _ b _ => t.length - (intOf b).toNat)
  case atStart => exact⟨k,k+1,t,rfl,by go_num,HD,O1,B1.out.mono hbase⟩
  case round =>
   clear HD O1 B1 hklt
   obtain⟨i,j,u,rfl,rfl,HD,HO,HN⟩:=hrel
   have hij:=HD.out.2.1
   have hjn:=HD.out.2.2.1
   have hul:=HD.out.1
   by_cases hlt:j < t.length
   ·obtain⟨h0,h1,h2,h3,h4,h5,h6⟩:=cells7_at.2 (HO.out.row entOK (show j < u.length by omega))
    have hgr:=HO.out.head.2.2.1
    have hrow:=edelAt_row HD.out hlt
    obtain⟨⟨xo,xc,⟨x1,x2,x3,x4,x5⟩⟩,hr⟩ : ∃ r,t.getD j Ent.zero=r:=⟨_,rfl⟩
    rw [hrow,hr] at h0 h1 h2 h3 h4 h5 h6
    simp only at h0 h1 h2 h3 h4 h5 h6
    have HR:=hD hr
    have hkr:Cells7 wr B 0 ⟨ko,kc,⟨k1,k2,k3,k4,k5⟩⟩:=cells7_at.2 (fun q u hu => (HN.out.cell (p:=⟨B,0+q,none⟩) hB).trans (cells7_at.1 HK.out q u hu))
    have hcell:=hD (hkr.later (bl_newZ wr (.cells #[.string ⟨xo.toArray⟩,.string ⟨xc.toArray⟩,.bool x1,.bool x2,.bool x3,.bool x4,.bool x5] 126)))
    have CX:=hD (cells7_made wr ⟨xo,xc,⟨x1,x2,x3,x4,x5⟩⟩ 126)
    have hbr:base≤wr.heap.size:=by omega
    have bn:=bl_newZ wr (.cells #[.string ⟨xo.toArray⟩,.string ⟨xc.toArray⟩,.bool x1,.bool x2,.bool x3,.bool x4,.bool x5] 126)
    clear hr hrow hkr
    cases hc:entIs ⟨xo,xc,⟨x1,x2,x3,x4,x5⟩⟩ ⟨ko,kc,⟨k1,k2,k3,k4,k5⟩⟩ with
    | true =>
     have HD2:=hD (edelAt_skip HD.out hlt HR.out hc)
     have HDel:=hD (wo1_any hcell.out xo xc x1 x2 x3 x4 x5 (hD hc))
     clear hc hcell
     go_wp2_with fail
     refine HDel.out.mono ?_
     rintro e w2 ⟨rfl,hb2⟩
     have bx:=below2Z bn hb2
     have N2:=hD (HN.out.trans (bx.mono hbr))
     have O2:=hD (HO.out.later bx)
     clear hb2 bx bn h0 h1 h2 h3 h4 h5 h6
     go_wp2_with fail
     go_roundw
     case rel => exact⟨i,j+1,u,rfl,by go_num,HD2,O2,N2⟩
     case measure => simp [intOf]; omega
    | false =>
     have HD2:=hD (edelAt_keep HD.out hlt HR.out hc)
     have HDel:=hD (wo1_any hcell.out xo xc x1 x2 x3 x4 x5 (hD hc))
     clear hc hcell
     go_wp2_with fail
     refine HDel.out.mono ?_
     rintro e w2 ⟨rfl,hb2⟩
     obtain⟨k0',k1',k2',k3',k4',k5',k6'⟩:=CX.out.later hb2
     simp only [Nat.zero_add] at k0' k1' k2' k3' k4' k5' k6'
     have bx:=below2Z bn hb2
     have N2:=hD (HN.out.trans (bx.mono hbr))
     have O2:=hD (HO.out.later bx)
     have hsz:=bx.size
     obtain⟨s0,s1,s2,s3,s4,s5,s6⟩:=cells7_at.2 (O2.out.row entOK (show i < u.length by omega))
     have f0:=O2.out.frozenAt (i * 7)
     have f1:=O2.out.frozenAt (i * 7+1)
     have f2:=O2.out.frozenAt (i * 7+2)
     have f3:=O2.out.frozenAt (i * 7+3)
     have f4:=O2.out.frozenAt (i * 7+4)
     have f5:=O2.out.frozenAt (i * 7+5)
     have f6:=O2.out.frozenAt (i * 7+6)
     have O3:=hD (setE_own O2.out (show i < u.length by omega) xo xc x1 x2 x3 x4 x5)
     have N3:=hD (setE_below (o:=i * 7) N2.out hbg xo xc x1 x2 x3 x4 x5)
     clear hb2 bx bn h0 h1 h2 h3 h4 h5 h6 O2 N2
     go_wp2_with fail
     go_roundw
     case rel => exact⟨i+1,j+1,u.set i ⟨xo,xc,⟨x1,x2,x3,x4,x5⟩⟩,by go_num,by go_num,HD2,O3,N3⟩
     case measure => simp [intOf]; omega
   ·obtain rfl:j=t.length:=by omega
    have hR:u.take i=dropO entIs t ⟨ko,kc,⟨k1,k2,k3,k4,k5⟩⟩:=by have:=HD.out.2.2.2.1; rwa [List.take_length] at this
    have HR:=hD hR
    have hne:¬ cap=i:=by omega
    clear hR
    go_wp2_with (with_reducible refine wpList_clear_S entOK rfl (.tmp 38) rfl base g t.length cap u HO.out i (some ⟨g,i * 7,none⟩) (t.length - i) (cap - i) rfl (fun _ => rfl) (by omega) ?_)
    intro w3 h3 hb3
    have O3:=hD (ownS_cut entOK h3 (i:=i) (by rw [List.length_append,List.length_take,List.length_replicate]; omega))
    have N3:=hD (HN.out.trans (hb3.mono hbg))
    clear h3 hb3
    go_wp2_with fail
    go_ret
    refine ⟨_,rfl,?_,N3.out⟩
    have:=O3.out
    rw [List.take_append_of_le_length (by rw [List.length_take]; omega),List.take_take,Nat.min_self,HR.out] at this
    exact this
 ·have HR:=hD (edrop_none hno)
  clear hno
  go_wp2_with fail
  go_ret
  exact⟨_,rfl,by rw [HR.out]; exact O1.out,B1.out.mono hbase⟩

theorem edeletef_nil {w:World} {B:Nat} {ko kc:List UInt8} {k1 k2 k3 k4 k5:Bool} (hk:Cells7 w B 0 ⟨ko,kc,⟨k1,k2,k3,k4,k5⟩⟩) :
  Calls Tryz.prog 196 #[.slice none 0 0,.func (.func 198) #[] #[.pointer (some ⟨B,0,none⟩)]] w fun e w' => e=.returned (.slice none 0 0)∧Below w.heap.size w w':=by
 have HI:=hD (eindexf_any (ents_nil w) hk)
 clear hk
 go_enter Tryz.func196,Tryz.ntmps196
 go_wp2_with fail
 refine HI.out.mono ?_
 rintro e w1 ⟨m,rfl,hf,hb1⟩
 have B1:=hD hb1
 clear hb1 HI
 rcases hf with ⟨k,hklt,rfl,hkc,hkn⟩ | ⟨rfl,hno⟩
 ·simp at hklt
 ·clear hno
  go_wp2_with fail
  go_ret
  exact⟨rfl,B1.out⟩

theorem rwithout_any {w:World} {v:Value} {l:List Ent} (hv:Ents w v l) (hl:l.length≤4294967) (ko kc:List UInt8) (k1 k2 k3 k4 k5:Bool) :
  Calls Tryz.prog 148 #[v,.agg #[.string ⟨ko.toArray⟩,.string ⟨kc.toArray⟩,.bool k1,.bool k2,.bool k3,.bool k4,.bool k5]] w fun e w' => ∃ u,e=.returned u∧OwnS entVals 7 126 w' w.heap.size u (dropO entIs l ⟨ko,kc,⟨k1,k2,k3,k4,k5⟩⟩)∧Below w.heap.size w w':=by
 have bn:=bl_newZ w (.cells #[.string ⟨ko.toArray⟩,.string ⟨kc.toArray⟩,.bool k1,.bool k2,.bool k3,.bool k4,.bool k5] 126)
 have B0:=hD bn
 have HS:=hD (show (w.alloc (.cells #[.string ⟨ko.toArray⟩,.string ⟨kc.toArray⟩,.bool k1,.bool k2,.bool k3,.bool k4,.bool k5] 126)).heap.size=w.heap.size+1 by simp)
 have K0:=hD (cells7_made w ⟨ko,kc,⟨k1,k2,k3,k4,k5⟩⟩ 126)
 have HC:=hD (ent_clone (hv.later bn).rdS hl)
 have hmf:∀ (fn:Fn) (first cap:Array Value) (w:World),(Instr.makeFunc fn first cap).run Tryz.prog w=.ok (.func fn first cap) w:=fun _ _ _ _ => rfl
 obtain⟨a,cap,rfl,hm⟩:=hv.open'
 clear hv bn
 go_enter Tryz.func148,Tryz.ntmps148
 go_wp2_with fail
 refine HC.out.mono ?_
 rintro e w1 ⟨u,rfl,ho,b1⟩
 have B1:=hD (below2Z B0.out b1)
 have K1:=hD (K0.out.later b1)
 have hsz:=b1.size
 rw [HS.out] at ho hsz
 have HO:=hD ho
 rcases ho.2 with ⟨rfl,h0⟩ | ⟨g,cp,cur,rfl,-,-,-,-,-,-⟩
 ·obtain rfl:l=[]:=List.length_eq_zero_iff.1 h0
  have HD:=hD (edeletef_nil K1.out)
  clear ho b1 h0
  go_wp2_with fail
  refine HD.out.mono ?_
  rintro e w2 ⟨rfl,b2⟩
  have B2:=hD (below2Z B1.out b2)
  clear b2
  go_wp2_with fail
  go_ret
  exact⟨_,rfl,ownS_nil _ _,B2.out⟩
 ·have HD:=hD (edeletef_some HO.out K1.out (by omega) (by omega))
  clear ho b1
  go_wp2_with fail
  refine HD.out.mono ?_
  rintro e w2 ⟨y,rfl,ho2,b2⟩
  have B2:=hD (B1.out.trans (b2.mono (by omega)))
  have O2:=hD (ownS_low ho2 (show w.heap.size≤w.heap.size+1 by omega))
  clear b2 ho2
  go_wp2_with fail
  go_ret
  exact⟨_,rfl,O2.out,B2.out⟩

end Go.Proofs.YtphfinlfabklmaaGreat

end
