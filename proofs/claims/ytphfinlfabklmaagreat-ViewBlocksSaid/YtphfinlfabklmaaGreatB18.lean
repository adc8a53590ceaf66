/-
 TEXTS OF THE PROOF, one behind the other: RosMayD.
-/
import Derived.Test.YtphfinlfabklmaaGreatB17
import Derived.Test.YtphfinlfabklmaaGreatB10

set_option maxHeartbeats 12800000
set_option maxRecDepth 100000

namespace Go.Proofs.YtphfinlfabklmaaGreat
open Go.RowKit

theorem ownT_slice {w:World} {base e:Nat} {v:Value} {ls:List (List UInt8)} (h:OwnT w base e v ls):∃ a cap,v=.slice a ls.length cap:=by
 rcases h with ⟨_,⟨rfl,h0⟩ | ⟨g,cp,cur,rfl,-⟩⟩
 ·exact⟨none,0,by rw [h0]⟩
 ·exact⟨_,_,rfl⟩

theorem roMayD_off {l:List Ent} {k:Nat} (hk:k < l.length) (h:roDocAt l k=false):roMayD l=false:=by
 rw [Bool.eq_false_iff]
 intro h'
 unfold roMayD at h'
 rw [List.all_eq_true] at h'
 rw [h' k (by simpa using hk)] at h
 cases h

theorem roDoc_next {l:List Ent} {k:Nat} (h:(List.range k).all (roDocAt l)=true) (hk:roDocAt l k=true):(List.range (k+1)).all (roDocAt l)=true:=by
 rw [List.range_succ,List.all_append,h]
 simp [hk]

theorem roDocAt_eq {l:List Ent} {k:Nat} {xo xc:List UInt8} {x1 x2 x3 x4 x5:Bool} (hr:l.getD k Ent.zero=⟨xo,xc,⟨x1,x2,x3,x4,x5⟩⟩) {ri g h m z y:Bool} {i1 i2 i3 i4 i5:Bool} (h1:roRiseAt l k=ri) (h2:decide (16 < (roOf l xo).length)=g) (h3:roHas l xc xo=h) (hi:roGet l xc xo=⟨i1,i2,i3,i4,i5⟩)
  (h4:suMay ⟨x1,x2,x3,x4,x5⟩ ⟨i1,i2,i3,i4,i5⟩=m) (h5:suEmpty ⟨x1,x2,x3,x4,x5⟩=z) (h6:suEmpty ⟨i1,i2,i3,i4,i5⟩=y):roDocAt l k=(ri && (!g && (h && (m && !(z && y))))):=by
 unfold roDocAt
 rw [h1,hr]
 simp only
 have e1:decide ((roOf l xo).length≤16)=!g:=by
  rw [← h2]
  by_cases hh:(roOf l xo).length≤16
  ·simp [hh,show ¬ 16 < (roOf l xo).length by omega]
  ·simp [hh,show 16 < (roOf l xo).length by omega]
 rw [e1]
 congr 1
 congr 1
 unfold roPaired
 simp only
 have e2:roIt l xc xo=⟨i1,i2,i3,i4,i5⟩:=hi
 have e3:(l.any fun x => entIs x ⟨xc,xo,It.zero⟩)=h:=h3
 rw [e2,e3,h4,h5,h6]

theorem s7 {W:World} {B:Nat} {xo xc:List UInt8} {x1 x2 x3 x4 x5:Bool} (h:Cells7 W B 0 ⟨xo,xc,⟨x1,x2,x3,x4,x5⟩⟩):((W).cell? ⟨B,0,none⟩=some (.string ⟨xo.toArray⟩)∧(W).cell? ⟨B,1,none⟩=some (.string ⟨xc.toArray⟩)∧(W).cell? ⟨B,2,none⟩=some (.bool x1)∧(W).cell? ⟨B,3,none⟩=some (.bool x2)∧(W).cell? ⟨B,4,none⟩=some (.bool x3)∧(W).cell? ⟨B,5,none⟩=some (.bool x4)∧(W).cell? ⟨B,6,none⟩=some (.bool x5)):=by
 obtain⟨c0,c1,c2,c3,c4,c5,c6⟩:=h
 exact⟨c0,c1,c2,c3,c4,c5,c6⟩

theorem s14 {W:World} {B bk off j:Nat} {xo xc:List UInt8} {x1 x2 x3 x4 x5:Bool} {po pc:List UInt8} {p1 p2 p3 p4 p5:Bool} (h:Cells7 W B 0 ⟨xo,xc,⟨x1,x2,x3,x4,x5⟩⟩) (g:Cells7 W bk (off+j * 7) ⟨po,pc,⟨p1,p2,p3,p4,p5⟩⟩):((W).cell? ⟨B,0,none⟩=some (.string ⟨xo.toArray⟩)∧(W).cell? ⟨B,1,none⟩=some (.string ⟨xc.toArray⟩)∧(W).cell? ⟨B,2,none⟩=some (.bool x1)∧(W).cell? ⟨B,3,none⟩=some (.bool x2)∧(W).cell? ⟨B,4,none⟩=some (.bool x3)∧(W).cell? ⟨B,5,none⟩=some (.bool x4)∧(W).cell? ⟨B,6,none⟩=some (.bool x5)∧(W).cell? ⟨bk,off+j * 7,none⟩=some (.string ⟨po.toArray⟩)∧(W).cell? ⟨bk,off+j * 7+1,none⟩=some (.string ⟨pc.toArray⟩)∧(W).cell? ⟨bk,off+j * 7+2,none⟩=some (.bool p1)∧(W).cell? ⟨bk,off+j * 7+3,none⟩=some (.bool p2)∧(W).cell? ⟨bk,off+j * 7+4,none⟩=some (.bool p3)∧(W).cell? ⟨bk,off+j * 7+5,none⟩=some (.bool p4)∧(W).cell? ⟨bk,off+j * 7+6,none⟩=some (.bool p5)):=by
 obtain⟨c0,c1,c2,c3,c4,c5,c6⟩:=h
 obtain⟨d0,d1,d2,d3,d4,d5,d6⟩:=g
 exact⟨c0,c1,c2,c3,c4,c5,c6,d0,d1,d2,d3,d4,d5,d6⟩

theorem rmay8_any {w:World} {v:Value} {l:List Ent} (hv:Ents w v l) (hs:ShortE l) (hl:l.length≤4294967) {r:Bool} (h:Hid (roMayD l=r)) :
  Calls Tryz.prog 75 #[v] w fun e w' => e=.returned (.bool r)∧Below w.heap.size w w':=by
 have HV:=hD hv
 have HS:=hD hs
 have HL:=hD hl
 obtain⟨a,cap,rfl,hm⟩:=hv.open'
 clear hv hs hl
 go_enter Tryz.func75,Tryz.ntmps75
 go_wp2_with fail
 go_loopw [3] (fun i wr => ∃ k:Nat,k≤l.length∧i=.int .i64 k∧Hid (Below w.heap.size w wr)∧Hid ((List.range k).all (roDocAt l)=true)) (fun i _ => l.length - (intOf i).toNat)
 case atStart => exact⟨0,by omega,rfl,Below.refl _ _,by show _=_; simp⟩
 case round =>
  obtain⟨k,hk,rfl,HB,HA⟩:=hrel
  by_cases hlt:k < l.length
  ·obtain⟨bk,off,rfl,h0,h1,h2,h3,h4,h5,h6⟩:=HV.out.row HB.out k hlt
   obtain⟨hl1,hl2⟩:=HS.out.get hlt
   obtain⟨⟨xo,xc,⟨x1,x2,x3,x4,x5⟩⟩,hr⟩ : ∃ r,l.getD k Ent.zero=r:=⟨_,rfl⟩
   rw [hr] at h0 h1 h2 h3 h4 h5 h6 hl1 hl2
   simp only at h0 h1 h2 h3 h4 h5 h6 hl1 hl2
   have bn:=bl_newZ wr (.cells #[.string ⟨xo.toArray⟩,.string ⟨xc.toArray⟩,.bool x1,.bool x2,.bool x3,.bool x4,.bool x5] 126)
   have B1:=hD (below2S HB.out bn)
   have C1:=hD (cells7_made wr ⟨xo,xc,⟨x1,x2,x3,x4,x5⟩⟩ 126)
   have V1:=hD (HV.out.later B1.out)
   have hnn:(0:Int)≤(k:Int):=by omega
   have hli:(k:Int) < (l.length:Int):=by omega
   have t1:decide ((k:Int) < (l.length:Int))=true:=by simpa using hli
   clear bn
   obtain⟨q1,hq1⟩ : ∃ q,idIs xo=q:=⟨_,rfl⟩
   obtain⟨q2,hq2⟩ : ∃ q,idIs xc=q:=⟨_,rfl⟩
   have hI1:∀ w,_:=ris_any xo hl1
   have hI2:∀ w,_:=ris_any xc hl2
   rw [hq1] at hI1
   rw [hq2] at hI2
   have I1:=hD hI1
   have I2:=hD hI2
   clear hI1 hI2 hl1 hl2
   cases q1 with
   | false =>
    have HR:roMayD l=false:=roMayD_off hlt (by unfold roDocAt roRiseAt; rw [hr]; simp [hq1])
    rw [h.out] at HR
    subst HR
    clear hr hq1 hq2
    go_wp2_with fail
    obtain⟨c0,c1,c2,c3,c4,c5,c6⟩:=cells7_regrown C1.out
    simp only [Nat.zero_add] at c0 c1 c2 c3 c4 c5 c6
    refine wp_region_quiet_below (by kernel_rfl) (by kernel_rfl) ?_
    repeat (go_big_quiet_step (first | with_reducible exact rgS I1.out _ _ _ | with_reducible exact rgS I2.out _ _ _))
    refine wpQuiet_nil ?_
    intro w5 hw5
    have B5:=hD (below2S B1.out (regrown_belowP hw5))
    clear hw5
    go_wp2_with fail
    go_ret
    exact⟨rfl,B5.out⟩
   | true =>
    cases q2 with
    | false =>
     have HR:roMayD l=false:=roMayD_off hlt (by unfold roDocAt roRiseAt; rw [hr]; simp [hq2])
     rw [h.out] at HR
     subst HR
     clear hr hq1 hq2
     go_wp2_with fail
     obtain⟨c0,c1,c2,c3,c4,c5,c6⟩:=cells7_regrown C1.out
     simp only [Nat.zero_add] at c0 c1 c2 c3 c4 c5 c6
     refine wp_region_quiet_below (by kernel_rfl) (by kernel_rfl) ?_
     repeat (go_big_quiet_step (first | with_reducible exact rgS I1.out _ _ _ | with_reducible exact rgS I2.out _ _ _))
     refine wpQuiet_nil ?_
     intro w5 hw5
     have B5:=hD (below2S B1.out (regrown_belowP hw5))
     clear hw5
     go_wp2_with fail
     go_ret
     exact⟨rfl,B5.out⟩
    | true =>
     by_cases hoc:xo=xc
     ·have HR:roMayD l=false:=roMayD_off hlt (by unfold roDocAt roRiseAt; rw [hr]; simp [hoc])
      rw [h.out] at HR
      subst HR
      clear hr hq1 hq2
      subst hoc
      go_wp2_with fail
      obtain⟨c0,c1,c2,c3,c4,c5,c6⟩:=cells7_regrown C1.out
      simp only [Nat.zero_add] at c0 c1 c2 c3 c4 c5 c6
      refine wp_region_quiet_below (by kernel_rfl) (by kernel_rfl) ?_
      repeat (go_big_quiet_step (first | with_reducible exact rgS I1.out _ _ _ | with_reducible exact rgS I2.out _ _ _))
      refine wpQuiet_nil ?_
      intro w5 hw5
      have B5:=hD (below2S B1.out (regrown_belowP hw5))
      clear hw5
      go_wp2_with fail
      go_ret
      exact⟨rfl,B5.out⟩
     ·have toc:(xo == xc)=false:=by rw [beq_eq_false_iff_ne]; exact hoc
      obtain⟨g,hg⟩ : ∃ g,decide (16 < (roOf l xo).length)=g:=⟨_,rfl⟩
      obtain⟨hh,hhas⟩ : ∃ g,roHas l xc xo=g:=⟨_,rfl⟩
      obtain⟨⟨i1,i2,i3,i4,i5⟩,hget⟩ : ∃ g,roGet l xc xo=g:=⟨_,rfl⟩
      obtain⟨m,hmm⟩ : ∃ g,suMay ⟨x1,x2,x3,x4,x5⟩ ⟨i1,i2,i3,i4,i5⟩=g:=⟨_,rfl⟩
      obtain⟨z,hz⟩ : ∃ g,suEmpty ⟨x1,x2,x3,x4,x5⟩=g:=⟨_,rfl⟩
      obtain⟨y,hy⟩ : ∃ g,suEmpty ⟨i1,i2,i3,i4,i5⟩=g:=⟨_,rfl⟩
      have FG:=hD hget
      have MM:=hD (rsmay_bl x1 x2 x3 x4 x5 i1 i2 i3 i4 i5 hmm)
      have MZ:=hD (rsempty_eq x1 x2 x3 x4 x5 hz)
      have MY:=hD (rsempty_eq i1 i2 i3 i4 i5 hy)
      have FH:=hD hhas
      have tg:decide ((16:Int) < ((roOf l xo).length:Int))=g:=by rw [← hg]; congr 1; apply propext; omega

      rcases Nat.eq_zero_or_pos k with rfl | hpos
      ·have HAt:=hD (roDocAt_eq hr (ri:=true) (by unfold roRiseAt; rw [hr]; simp [hq1,hq2,hoc]) hg hhas hget hmm hz hy)
       have t8:decide ((0:Int) < ((0:Nat):Int))=false:=by simp
       simp only [Nat.zero_mul,Nat.add_zero] at h0 h1 h2 h3 h4 h5 h6
       clear hr hq1 hq2 hoc hg hhas hget hmm hz hy
       go_wp2_with fail
       clear h0 h1 h2 h3 h4 h5 h6
       have CE:=C1
       refine wp_region_held_drew (S:=(fun W => ((W).cell? ⟨wr.heap.size,0,none⟩=some (.string ⟨xo.toArray⟩)∧(W).cell? ⟨wr.heap.size,1,none⟩=some (.string ⟨xc.toArray⟩)∧(W).cell? ⟨wr.heap.size,2,none⟩=some (.bool x1)∧(W).cell? ⟨wr.heap.size,3,none⟩=some (.bool x2)∧(W).cell? ⟨wr.heap.size,4,none⟩=some (.bool x3)∧(W).cell? ⟨wr.heap.size,5,none⟩=some (.bool x4)∧(W).cell? ⟨wr.heap.size,6,none⟩=some (.bool x5)))) (by kernel_rfl) ?_ (fun hHeld => ?_)
       ·exact s7 (C1.out.later (Below.refl _ _).drew)
       refine wpAnyH_take (i:=0) (oi:=⟨some 16,.fieldAddr 126 (.tmp 4) 0,0,"ref.go:50",#[],none⟩) (v:=?_) rfl (by as_aux_lemma => kernel_rfl) (by as_aux_lemma => kernel_rfl) (by as_aux_lemma => kernel_rfl) (fun _ _ _ h => h) (Or.inl ⟨by rfl,?_⟩) (by assumption) ?_
       rotate_left
       ·intro w' hSw
        try dsimp only at hSw
        go_simp
        try with_reducible rfl
       try simp only [Act.put,List.setIfInBounds_toArray,List.set_cons_zero,List.set_cons_succ]
       refine wpAnyH_take (i:=1) (oi:=⟨some 17,.load 9 (.tmp 16),9,"ref.go:50",#[⟨0,.data⟩],none⟩) (v:=?_) rfl (by as_aux_lemma => kernel_rfl) (by as_aux_lemma => kernel_rfl) (by as_aux_lemma => kernel_rfl) (fun _ _ _ h => h) (Or.inl ⟨by rfl,?_⟩) (by assumption) ?_
       rotate_left
       ·intro w' hSw
        try dsimp only at hSw
        go_simp
        try with_reducible rfl
       try simp only [Act.put,List.setIfInBounds_toArray,List.set_cons_zero,List.set_cons_succ]
       refine wpAnyH_ready (rs:=[2]) (by as_aux_lemma => kernel_rfl) (by simp) ?_
       refine AllReadyH.cons (o:=⟨some 18,.call { callee:=.value (.func 107),args:=#[.tmp 17],argTypes:=#[9] },4,"ref.go:50",#[⟨1,.data⟩],none⟩) rfl (fun Kx hK => ?_) AllReadyH.nil
       go_simp
       refine (I1.out _).mono ?_
       rintro e w21 ⟨rfl,rfl⟩
       go_wp2_with fail
       refine hK.out _ _ ?_ (fun hHeld2 => ?_)
       ·exact hHeld
       clear hK Kx hHeld
       have hHeld:=hHeld2
       clear hHeld2
       try simp only [Act.put,List.setIfInBounds_toArray,List.set_cons_zero,List.set_cons_succ]
       refine wpAnyH_take (i:=3) (oi:=⟨some 19,.unOp .not 4 (.tmp 18),4,"ref.go:50",#[⟨2,.data⟩],none⟩) (v:=?_) rfl (by as_aux_lemma => kernel_rfl) (by as_aux_lemma => kernel_rfl) (by as_aux_lemma => kernel_rfl) (fun _ _ _ h => h) (Or.inl ⟨by rfl,?_⟩) (by assumption) ?_
       rotate_left
       ·intro w' hSw
        try dsimp only at hSw
        go_simp
        try with_reducible rfl
       try simp only [Act.put,List.setIfInBounds_toArray,List.set_cons_zero,List.set_cons_succ]
       refine wpAnyH_take (i:=4) (oi:=⟨some 20,.move (.tmp 19),4,"ref.go:50",#[⟨3,.data⟩,⟨2,.chain⟩],none⟩) (v:=?_) rfl (by as_aux_lemma => kernel_rfl) (by as_aux_lemma => kernel_rfl) (by as_aux_lemma => kernel_rfl) (fun _ _ _ h => h) (Or.inl ⟨by rfl,?_⟩) (by assumption) ?_
       rotate_left
       ·intro w' hSw
        try dsimp only at hSw
        go_simp
        try with_reducible rfl
       try simp only [Act.put,List.setIfInBounds_toArray,List.set_cons_zero,List.set_cons_succ]
       refine wpAnyH_take (i:=5) (oi:=⟨some 21,.fieldAddr 126 (.tmp 4) 1,0,"ref.go:50",#[⟨4,.guard⟩],some (4,false)⟩) (v:=?_) rfl (by as_aux_lemma => kernel_rfl) (by as_aux_lemma => kernel_rfl) (by as_aux_lemma => kernel_rfl) (fun _ _ _ h => h) (Or.inl ⟨by rfl,?_⟩) (by assumption) ?_
       rotate_left
       ·intro w' hSw
        try dsimp only at hSw
        go_simp
        try with_reducible rfl
       try simp only [Act.put,List.setIfInBounds_toArray,List.set_cons_zero,List.set_cons_succ]
       refine wpAnyH_take (i:=6) (oi:=⟨some 22,.load 9 (.tmp 21),9,"ref.go:50",#[⟨5,.data⟩,⟨4,.guard⟩],some (4,false)⟩) (v:=?_) rfl (by as_aux_lemma => kernel_rfl) (by as_aux_lemma => kernel_rfl) (by as_aux_lemma => kernel_rfl) (fun _ _ _ h => h) (Or.inl ⟨by rfl,?_⟩) (by assumption) ?_
       rotate_left
       ·intro w' hSw
        try dsimp only at hSw
        go_simp
        try with_reducible rfl
       try simp only [Act.put,List.setIfInBounds_toArray,List.set_cons_zero,List.set_cons_succ]
       refine wpAnyH_ready (rs:=[7]) (by as_aux_lemma => kernel_rfl) (by simp) ?_
       refine AllReadyH.cons (o:=⟨some 23,.call { callee:=.value (.func 107),args:=#[.tmp 22],argTypes:=#[9] },4,"ref.go:50",#[⟨6,.data⟩,⟨4,.chain⟩,⟨4,.guard⟩],some (4,false)⟩) rfl (fun Kx hK => ?_) AllReadyH.nil
       go_simp
       refine (I2.out _).mono ?_
       rintro e w22 ⟨rfl,rfl⟩
       go_wp2_with fail
       refine hK.out _ _ ?_ (fun hHeld2 => ?_)
       ·exact hHeld
       clear hK Kx hHeld
       have hHeld:=hHeld2
       clear hHeld2
       try simp only [Act.put,List.setIfInBounds_toArray,List.set_cons_zero,List.set_cons_succ]
       refine wpAnyH_take (i:=8) (oi:=⟨some 24,.unOp .not 4 (.tmp 23),4,"ref.go:50",#[⟨7,.data⟩,⟨4,.guard⟩],some (4,false)⟩) (v:=?_) rfl (by as_aux_lemma => kernel_rfl) (by as_aux_lemma => kernel_rfl) (by as_aux_lemma => kernel_rfl) (fun _ _ _ h => h) (Or.inl ⟨by rfl,?_⟩) (by assumption) ?_
       rotate_left
       ·intro w' hSw
        try dsimp only at hSw
        go_simp
        try with_reducible rfl
       try simp only [Act.put,List.setIfInBounds_toArray,List.set_cons_zero,List.set_cons_succ]
       refine wpAnyH_take (i:=9) (oi:=⟨some 25,.pick (.tmp 20) (.const (.bool true)) (.tmp 24),4,"ref.go:50",#[⟨4,.data⟩,⟨8,.data⟩],none⟩) (v:=?_) rfl (by as_aux_lemma => kernel_rfl) (by as_aux_lemma => kernel_rfl) (by as_aux_lemma => kernel_rfl) (fun _ _ _ h => h) (Or.inl ⟨by rfl,?_⟩) (by assumption) ?_
       rotate_left
       ·intro w' hSw
        try dsimp only at hSw
        go_simp
        try with_reducible rfl
       try simp only [Act.put,List.setIfInBounds_toArray,List.set_cons_zero,List.set_cons_succ]
       refine wpAnyH_take (i:=10) (oi:=⟨some 26,.move (.tmp 25),4,"ref.go:50",#[⟨9,.data⟩,⟨7,.chain⟩],none⟩) (v:=?_) rfl (by as_aux_lemma => kernel_rfl) (by as_aux_lemma => kernel_rfl) (by as_aux_lemma => kernel_rfl) (fun _ _ _ h => h) (Or.inl ⟨by rfl,?_⟩) (by assumption) ?_
       rotate_left
       ·intro w' hSw
        try dsimp only at hSw
        go_simp
        try with_reducible rfl
       try simp only [Act.put,List.setIfInBounds_toArray,List.set_cons_zero,List.set_cons_succ]
       refine wpAnyH_take (i:=11) (oi:=⟨some 27,.fieldAddr 126 (.tmp 4) 0,0,"ref.go:50",#[⟨10,.guard⟩],some (10,false)⟩) (v:=?_) rfl (by as_aux_lemma => kernel_rfl) (by as_aux_lemma => kernel_rfl) (by as_aux_lemma => kernel_rfl) (fun _ _ _ h => h) (Or.inl ⟨by rfl,?_⟩) (by assumption) ?_
       rotate_left
       ·intro w' hSw
        try dsimp only at hSw
        go_simp
        try with_reducible rfl
       try simp only [Act.put,List.setIfInBounds_toArray,List.set_cons_zero,List.set_cons_succ]
       refine wpAnyH_take (i:=12) (oi:=⟨some 28,.load 9 (.tmp 27),9,"ref.go:50",#[⟨11,.data⟩,⟨10,.guard⟩],some (10,false)⟩) (v:=?_) rfl (by as_aux_lemma => kernel_rfl) (by as_aux_lemma => kernel_rfl) (by as_aux_lemma => kernel_rfl) (fun _ _ _ h => h) (Or.inl ⟨by rfl,?_⟩) (by assumption) ?_
       rotate_left
       ·intro w' hSw
        try dsimp only at hSw
        go_simp
        try with_reducible rfl
       try simp only [Act.put,List.setIfInBounds_toArray,List.set_cons_zero,List.set_cons_succ]
       refine wpAnyH_take (i:=13) (oi:=⟨some 29,.fieldAddr 126 (.tmp 4) 1,0,"ref.go:50",#[⟨10,.guard⟩],some (10,false)⟩) (v:=?_) rfl (by as_aux_lemma => kernel_rfl) (by as_aux_lemma => kernel_rfl) (by as_aux_lemma => kernel_rfl) (fun _ _ _ h => h) (Or.inl ⟨by rfl,?_⟩) (by assumption) ?_
       rotate_left
       ·intro w' hSw
        try dsimp only at hSw
        go_simp
        try with_reducible rfl
       try simp only [Act.put,List.setIfInBounds_toArray,List.set_cons_zero,List.set_cons_succ]
       refine wpAnyH_take (i:=14) (oi:=⟨some 30,.load 9 (.tmp 29),9,"ref.go:50",#[⟨13,.data⟩,⟨10,.guard⟩],some (10,false)⟩) (v:=?_) rfl (by as_aux_lemma => kernel_rfl) (by as_aux_lemma => kernel_rfl) (by as_aux_lemma => kernel_rfl) (fun _ _ _ h => h) (Or.inl ⟨by rfl,?_⟩) (by assumption) ?_
       rotate_left
       ·intro w' hSw
        try dsimp only at hSw
        go_simp
        try with_reducible rfl
       try simp only [Act.put,List.setIfInBounds_toArray,List.set_cons_zero,List.set_cons_succ]
       refine wpAnyH_take (i:=15) (oi:=⟨some 31,.binOp .eql 9 (.tmp 28) (.tmp 30) 9,4,"ref.go:50",#[⟨12,.data⟩,⟨14,.data⟩,⟨10,.guard⟩],some (10,false)⟩) (v:=?_) rfl (by as_aux_lemma => kernel_rfl) (by as_aux_lemma => kernel_rfl) (by as_aux_lemma => kernel_rfl) (fun _ _ _ h => h) (Or.inl ⟨by rfl,?_⟩) (by assumption) ?_
       rotate_left
       ·intro w' hSw
        try dsimp only at hSw
        go_simp
        try with_reducible rfl
       try simp only [Act.put,List.setIfInBounds_toArray,List.set_cons_zero,List.set_cons_succ]
       refine wpAnyH_take (i:=16) (oi:=⟨some 32,.pick (.tmp 26) (.const (.bool true)) (.tmp 31),4,"ref.go:50",#[⟨10,.data⟩,⟨15,.data⟩],none⟩) (v:=?_) rfl (by as_aux_lemma => kernel_rfl) (by as_aux_lemma => kernel_rfl) (by as_aux_lemma => kernel_rfl) (fun _ _ _ h => h) (Or.inl ⟨by rfl,?_⟩) (by assumption) ?_
       rotate_left
       ·intro w' hSw
        try dsimp only at hSw
        go_simp
        try with_reducible rfl
       try simp only [Act.put,List.setIfInBounds_toArray,List.set_cons_zero,List.set_cons_succ]
       refine wpAnyH_take (i:=17) (oi:=⟨some 33,.move (.tmp 32),4,"ref.go:50",#[⟨16,.data⟩,⟨10,.chain⟩],none⟩) (v:=?_) rfl (by as_aux_lemma => kernel_rfl) (by as_aux_lemma => kernel_rfl) (by as_aux_lemma => kernel_rfl) (fun _ _ _ h => h) (Or.inl ⟨by rfl,?_⟩) (by assumption) ?_
       rotate_left
       ·intro w' hSw
        try dsimp only at hSw
        go_simp
        try with_reducible rfl
       try simp only [Act.put,List.setIfInBounds_toArray,List.set_cons_zero,List.set_cons_succ]
       refine wpAnyH_take (i:=18) (oi:=⟨some 34,.move (.tmp 3),3,"ref.go:50",#[⟨17,.guard⟩],some (17,false)⟩) (v:=?_) rfl (by as_aux_lemma => kernel_rfl) (by as_aux_lemma => kernel_rfl) (by as_aux_lemma => kernel_rfl) (fun _ _ _ h => h) (Or.inl ⟨by rfl,?_⟩) (by assumption) ?_
       rotate_left
       ·intro w' hSw
        try dsimp only at hSw
        go_simp
        try with_reducible rfl
       try simp only [Act.put,List.setIfInBounds_toArray,List.set_cons_zero,List.set_cons_succ]
       refine wpAnyH_take (i:=19) (oi:=⟨some 35,.binOp .gtr 3 (.tmp 34) (.const (.int .i64 0)) 3,4,"ref.go:50",#[⟨18,.data⟩,⟨17,.guard⟩],some (17,false)⟩) (v:=?_) rfl (by as_aux_lemma => kernel_rfl) (by as_aux_lemma => kernel_rfl) (by as_aux_lemma => kernel_rfl) (fun _ _ _ h => h) (Or.inl ⟨by rfl,?_⟩) (by assumption) ?_
       rotate_left
       ·intro w' hSw
        try dsimp only at hSw
        go_simp
        try with_reducible rfl
       try simp only [Act.put,List.setIfInBounds_toArray,List.set_cons_zero,List.set_cons_succ]
       refine wpAnyH_take (i:=20) (oi:=⟨some 36,.move (.tmp 35),4,"ref.go:50",#[⟨19,.data⟩,⟨17,.chain⟩,⟨17,.guard⟩],some (17,false)⟩) (v:=?_) rfl (by as_aux_lemma => kernel_rfl) (by as_aux_lemma => kernel_rfl) (by as_aux_lemma => kernel_rfl) (fun _ _ _ h => h) (Or.inl ⟨by rfl,?_⟩) (by assumption) ?_
       rotate_left
       ·intro w' hSw
        try dsimp only at hSw
        go_simp
        try with_reducible rfl
       try simp only [Act.put,List.setIfInBounds_toArray,List.set_cons_zero,List.set_cons_succ]
       refine wpAnyH_take (i:=21) (oi:=⟨some 37,.move (.tmp 0),22,"ref.go:50",#[⟨20,.guard⟩],some (20,true)⟩) (v:=undef) rfl (by as_aux_lemma => kernel_rfl) (by as_aux_lemma => kernel_rfl) (by as_aux_lemma => kernel_rfl) (fun _ _ _ h => h) (Or.inr ⟨by rfl,rfl⟩) (by assumption) ?_
       try simp only [Act.put,List.setIfInBounds_toArray,List.set_cons_zero,List.set_cons_succ]
       refine wpAnyH_take (i:=22) (oi:=⟨some 38,.move (.tmp 3),3,"ref.go:50",#[⟨20,.guard⟩],some (20,true)⟩) (v:=undef) rfl (by as_aux_lemma => kernel_rfl) (by as_aux_lemma => kernel_rfl) (by as_aux_lemma => kernel_rfl) (fun _ _ _ h => h) (Or.inr ⟨by rfl,rfl⟩) (by assumption) ?_
       try simp only [Act.put,List.setIfInBounds_toArray,List.set_cons_zero,List.set_cons_succ]
       refine wpAnyH_take (i:=23) (oi:=⟨some 39,.binOp .sub 3 (.tmp 38) (.const (.int .i64 1)) 3,3,"ref.go:50",#[⟨22,.data⟩,⟨20,.guard⟩],some (20,true)⟩) (v:=undef) rfl (by as_aux_lemma => kernel_rfl) (by as_aux_lemma => kernel_rfl) (by as_aux_lemma => kernel_rfl) (fun _ _ _ h => h) (Or.inr ⟨by rfl,rfl⟩) (by assumption) ?_
       try simp only [Act.put,List.setIfInBounds_toArray,List.set_cons_zero,List.set_cons_succ]
       refine wpAnyH_take (i:=24) (oi:=⟨some 40,.indexAddr 22 (.tmp 37) (.tmp 39),0,"ref.go:50",#[⟨21,.data⟩,⟨23,.data⟩,⟨20,.guard⟩],some (20,true)⟩) (v:=undef) rfl (by as_aux_lemma => kernel_rfl) (by as_aux_lemma => kernel_rfl) (by as_aux_lemma => kernel_rfl) (fun _ _ _ h => h) (Or.inr ⟨by rfl,rfl⟩) (by assumption) ?_
       try simp only [Act.put,List.setIfInBounds_toArray,List.set_cons_zero,List.set_cons_succ]
       refine wpAnyH_take (i:=25) (oi:=⟨some 41,.load 126 (.tmp 40),126,"ref.go:50",#[⟨24,.data⟩,⟨20,.guard⟩],some (20,true)⟩) (v:=undef) rfl (by as_aux_lemma => kernel_rfl) (by as_aux_lemma => kernel_rfl) (by as_aux_lemma => kernel_rfl) (fun _ _ _ h => h) (Or.inr ⟨by rfl,rfl⟩) (by assumption) ?_
       try simp only [Act.put,List.setIfInBounds_toArray,List.set_cons_zero,List.set_cons_succ]
       refine wpAnyH_take (i:=26) (oi:=⟨some 42,.load 126 (.tmp 4),126,"ref.go:50",#[⟨20,.guard⟩],some (20,true)⟩) (v:=undef) rfl (by as_aux_lemma => kernel_rfl) (by as_aux_lemma => kernel_rfl) (by as_aux_lemma => kernel_rfl) (fun _ _ _ h => h) (Or.inr ⟨by rfl,rfl⟩) (by assumption) ?_
       try simp only [Act.put,List.setIfInBounds_toArray,List.set_cons_zero,List.set_cons_succ]
       refine wpAnyH_take (i:=27) (oi:=⟨some 43,.call { callee:=.value (.func 133),args:=#[.tmp 41,.tmp 42],argTypes:=#[126,126] },4,"ref.go:50",#[⟨25,.data⟩,⟨26,.data⟩,⟨20,.chain⟩,⟨20,.guard⟩],some (20,true)⟩) (v:=undef) rfl (by as_aux_lemma => kernel_rfl) (by as_aux_lemma => kernel_rfl) (by as_aux_lemma => kernel_rfl) (fun _ _ _ h => h) (Or.inr ⟨by rfl,rfl⟩) (by assumption) ?_
       try simp only [Act.put,List.setIfInBounds_toArray,List.set_cons_zero,List.set_cons_succ]
       refine wpAnyH_take (i:=28) (oi:=⟨some 44,.unOp .not 4 (.tmp 43),4,"ref.go:50",#[⟨27,.data⟩,⟨20,.guard⟩],some (20,true)⟩) (v:=undef) rfl (by as_aux_lemma => kernel_rfl) (by as_aux_lemma => kernel_rfl) (by as_aux_lemma => kernel_rfl) (fun _ _ _ h => h) (Or.inr ⟨by rfl,rfl⟩) (by assumption) ?_
       try simp only [Act.put,List.setIfInBounds_toArray,List.set_cons_zero,List.set_cons_succ]
       refine wpAnyH_take (i:=29) (oi:=⟨some 45,.pick (.tmp 36) (.tmp 44) (.const (.bool false)),4,"ref.go:50",#[⟨20,.data⟩,⟨28,.data⟩,⟨17,.guard⟩],some (17,false)⟩) (v:=?_) rfl (by as_aux_lemma => kernel_rfl) (by as_aux_lemma => kernel_rfl) (by as_aux_lemma => kernel_rfl) (fun _ _ _ h => h) (Or.inl ⟨by rfl,?_⟩) (by assumption) ?_
       rotate_left
       ·intro w' hSw
        try dsimp only at hSw
        go_simp
        try with_reducible rfl
       try simp only [Act.put,List.setIfInBounds_toArray,List.set_cons_zero,List.set_cons_succ]
       have BD:=hD (below2S B1.out (Below.refl _ _).drew)
       have CD:=hD (C1.out.later (Below.refl _ _).drew)
       refine wpAnyH_take (i:=30) (oi:=⟨some 46,.pick (.tmp 33) (.const (.bool true)) (.tmp 45),4,"ref.go:50",#[⟨17,.data⟩,⟨29,.data⟩],none⟩) (v:=?_) rfl (by as_aux_lemma => kernel_rfl) (by as_aux_lemma => kernel_rfl) (by as_aux_lemma => kernel_rfl) (fun _ _ _ h => h) (Or.inl ⟨by rfl,?_⟩) (by assumption) ?_
       rotate_left
       ·intro w' hSw
        try dsimp only at hSw
        go_simp
        try with_reducible rfl
       try simp only [Act.put,List.setIfInBounds_toArray,List.set_cons_zero,List.set_cons_succ]
       refine wpAnyH_take (i:=31) (oi:=⟨some 47,.move (.tmp 46),4,"ref.go:50",#[⟨30,.data⟩,⟨27,.chain⟩],none⟩) (v:=?_) rfl (by as_aux_lemma => kernel_rfl) (by as_aux_lemma => kernel_rfl) (by as_aux_lemma => kernel_rfl) (fun _ _ _ h => h) (Or.inl ⟨by rfl,?_⟩) (by assumption) ?_
       rotate_left
       ·intro w' hSw
        try dsimp only at hSw
        go_simp
        try with_reducible rfl
       try simp only [Act.put,List.setIfInBounds_toArray,List.set_cons_zero,List.set_cons_succ]
       refine wpAnyH_take (i:=32) (oi:=⟨some 48,.move (.tmp 0),22,"ref.go:50",#[⟨31,.guard⟩],some (31,false)⟩) (v:=?_) rfl (by as_aux_lemma => kernel_rfl) (by as_aux_lemma => kernel_rfl) (by as_aux_lemma => kernel_rfl) (fun _ _ _ h => h) (Or.inl ⟨by rfl,?_⟩) (by assumption) ?_
       rotate_left
       ·intro w' hSw
        try dsimp only at hSw
        go_simp
        try with_reducible rfl
       try simp only [Act.put,List.setIfInBounds_toArray,List.set_cons_zero,List.set_cons_succ]
       refine wpAnyH_take (i:=33) (oi:=⟨some 49,.fieldAddr 126 (.tmp 4) 0,0,"ref.go:50",#[⟨31,.guard⟩],some (31,false)⟩) (v:=?_) rfl (by as_aux_lemma => kernel_rfl) (by as_aux_lemma => kernel_rfl) (by as_aux_lemma => kernel_rfl) (fun _ _ _ h => h) (Or.inl ⟨by rfl,?_⟩) (by assumption) ?_
       rotate_left
       ·intro w' hSw
        try dsimp only at hSw
        go_simp
        try with_reducible rfl
       try simp only [Act.put,List.setIfInBounds_toArray,List.set_cons_zero,List.set_cons_succ]
       refine wpAnyH_take (i:=34) (oi:=⟨some 50,.load 9 (.tmp 49),9,"ref.go:50",#[⟨33,.data⟩,⟨31,.guard⟩],some (31,false)⟩) (v:=?_) rfl (by as_aux_lemma => kernel_rfl) (by as_aux_lemma => kernel_rfl) (by as_aux_lemma => kernel_rfl) (fun _ _ _ h => h) (Or.inl ⟨by rfl,?_⟩) (by assumption) ?_
       rotate_left
       ·intro w' hSw
        try dsimp only at hSw
        go_simp
        try with_reducible rfl
       try simp only [Act.put,List.setIfInBounds_toArray,List.set_cons_zero,List.set_cons_succ]
       refine wpAnyH_ready (rs:=[35]) (by as_aux_lemma => kernel_rfl) (by simp) ?_
       refine AllReadyH.cons (o:=⟨some 51,.call { callee:=.value (.func 69),args:=#[.tmp 48,.tmp 50],argTypes:=#[22,9] },37,"ref.go:50",#[⟨32,.data⟩,⟨34,.data⟩,⟨31,.chain⟩,⟨31,.guard⟩],some (31,false)⟩) rfl (fun Kx hK => ?_) AllReadyH.nil
       go_simp
       refine (rof_any (HV.out.later BD.out) HL.out xo).mono ?_
       rintro e w24 ⟨u24,rfl,h24,b24⟩
       obtain⟨a24,k24,rfl⟩:=ownT_slice h24
       have BE:=hD (below2S BD.out b24)
       have CE:=hD (CD.out.later b24)
       clear b24 h24
       go_wp2_with fail
       refine hK.out _ _ ?_ (fun hHeld2 => ?_)
       ·exact s7 (CE.out)
       clear hK Kx hHeld
       have hHeld:=hHeld2
       clear hHeld2
       try simp only [Act.put,List.setIfInBounds_toArray,List.set_cons_zero,List.set_cons_succ]
       refine wpAnyH_take (i:=36) (oi:=⟨some 52,.call { callee:=.builtin .len,args:=#[.tmp 51],argTypes:=#[37] },3,"ref.go:50",#[⟨35,.data⟩,⟨31,.guard⟩],some (31,false)⟩) (v:=?_) rfl (by as_aux_lemma => kernel_rfl) (by as_aux_lemma => kernel_rfl) (by as_aux_lemma => kernel_rfl) (fun _ _ _ h => h) (Or.inl ⟨by rfl,?_⟩) (by assumption) ?_
       rotate_left
       ·intro w' hSw
        try dsimp only at hSw
        go_simp
        try with_reducible rfl
       try simp only [Act.put,List.setIfInBounds_toArray,List.set_cons_zero,List.set_cons_succ]
       refine wpAnyH_take (i:=37) (oi:=⟨some 53,.binOp .gtr 3 (.tmp 52) (.const (.int .i64 16)) 3,4,"ref.go:50",#[⟨36,.data⟩,⟨31,.guard⟩],some (31,false)⟩) (v:=?_) rfl (by as_aux_lemma => kernel_rfl) (by as_aux_lemma => kernel_rfl) (by as_aux_lemma => kernel_rfl) (fun _ _ _ h => h) (Or.inl ⟨by rfl,?_⟩) (by assumption) ?_
       rotate_left
       ·intro w' hSw
        try dsimp only at hSw
        go_simp
        try with_reducible rfl
       try simp only [Act.put,List.setIfInBounds_toArray,List.set_cons_zero,List.set_cons_succ]
       refine wpAnyH_take (i:=38) (oi:=⟨some 54,.pick (.tmp 47) (.const (.bool true)) (.tmp 53),4,"ref.go:50",#[⟨31,.data⟩,⟨37,.data⟩],none⟩) (v:=?_) rfl (by as_aux_lemma => kernel_rfl) (by as_aux_lemma => kernel_rfl) (by as_aux_lemma => kernel_rfl) (fun _ _ _ h => h) (Or.inl ⟨by rfl,?_⟩) (by assumption) ?_
       rotate_left
       ·intro w' hSw
        try dsimp only at hSw
        go_simp
        try with_reducible rfl
       try simp only [Act.put,List.setIfInBounds_toArray,List.set_cons_zero,List.set_cons_succ]
       refine wpAnyH_done (by kernel_rfl) ?_ _
       cases g with
       | true =>
        have HR:roMayD l=false:=roMayD_off hlt (by rw [HAt.out]; simp)
        rw [h.out] at HR
        subst HR
        go_wp2_with fail
        go_ret
        exact⟨rfl,BE.out⟩
       | false =>
        obtain⟨c0,c1,c2,c3,c4,c5,c6⟩:=CE.out
        simp only [Nat.zero_add] at c0 c1 c2 c3 c4 c5 c6
        go_wp2_with fail
        refine (rget8_eq (HV.out.later BE.out) xc xo FG).mono ?_
        rintro e w7 ⟨rfl,b7⟩
        have b8:=below2S b7 (bl_newZ w7 (.cells #[.bool i1,.bool i2,.bool i3,.bool i4,.bool i5] 115))
        have D5:=hD (itAt_made w7 ⟨i1,i2,i3,i4,i5⟩ w7.heap.size rfl)
        replace BE:=hD (below2S BE.out b8)
        replace CE:=hD (CE.out.later b8)
        clear b7 b8 c0 c1 c2 c3 c4 c5 c6
        obtain⟨c0,c1,c2,c3,c4,c5,c6⟩:=CE.out
        obtain⟨d0,d1,d2,d3,d4⟩:=D5.out
        simp only [Nat.zero_add] at c0 c1 c2 c3 c4 c5 c6
        go_wp2_with fail
        have RH:=rhas_any (HV.out.later BE.out) xc xo
        rw [FH.out] at RH
        refine RH.mono ?_
        rintro e w8 ⟨rfl,rfl⟩
        clear RH
        cases hh with
        | false =>
         have HR:roMayD l=false:=roMayD_off hlt (by rw [HAt.out]; simp)
         rw [h.out] at HR
         subst HR
         go_wp2_with fail
         go_ret
         exact⟨rfl,BE.out⟩
        | true =>
         go_wp2_with fail
         refine (MM.out _).mono ?_
         rintro e w9 ⟨rfl,b9⟩
         replace BE:=hD (below2S BE.out b9)
         replace CE:=hD (CE.out.later b9)
         replace D5:=hD (D5.out.later b9)
         clear b9 c0 c1 c2 c3 c4 c5 c6 d0 d1 d2 d3 d4
         obtain⟨c0,c1,c2,c3,c4,c5,c6⟩:=CE.out
         obtain⟨d0,d1,d2,d3,d4⟩:=D5.out
         simp only [Nat.zero_add] at c0 c1 c2 c3 c4 c5 c6
         cases m with
         | false =>
          have HR:roMayD l=false:=roMayD_off hlt (by rw [HAt.out]; simp)
          rw [h.out] at HR
          subst HR
          go_wp2_with fail
          go_ret
          exact⟨rfl,BE.out⟩
         | true =>
          go_wp2_with fail
          refine (MZ.out _).mono ?_
          rintro e w10 ⟨rfl,b10⟩
          replace BE:=hD (below2S BE.out b10)
          replace D5:=hD (D5.out.later b10)
          clear b10 c0 c1 c2 c3 c4 c5 c6 d0 d1 d2 d3 d4
          obtain⟨d0,d1,d2,d3,d4⟩:=D5.out
          cases z with
          | false =>
           have HA2:=hD (roDoc_next HA.out (by rw [HAt.out]; simp))
           clear d0 d1 d2 d3 d4
           go_wp2_with fail
           go_roundw
           case rel => exact⟨0+1,by omega,by go_num,BE,HA2⟩
           case measure => simp [intOf]; omega
          | true =>
           go_wp2_with fail
           refine (MY.out _).mono ?_
           rintro e w11 ⟨rfl,b11⟩
           replace BE:=hD (below2S BE.out b11)
           clear b11 d0 d1 d2 d3 d4
           cases y with
           | true =>
            have HR:roMayD l=false:=roMayD_off hlt (by rw [HAt.out]; simp)
            rw [h.out] at HR
            subst HR
            go_wp2_with fail
            go_ret
            exact⟨rfl,BE.out⟩
           | false =>
            have HA2:=hD (roDoc_next HA.out (by rw [HAt.out]; simp))
            go_wp2_with fail
            go_roundw
            case rel => exact⟨0+1,by omega,by go_num,BE,HA2⟩
            case measure => simp [intOf]; omega
      ·obtain⟨j,rfl⟩ : ∃ j,k=j+1:=⟨k - 1,by omega⟩
       obtain⟨b2,off2,e2,hP⟩:=HV.out.row HB.out j (by omega)
       injection e2 with e2
       injection e2 with e3 e4 _
       subst e3 e4
       obtain⟨⟨po,pc,⟨p1,p2,p3,p4,p5⟩⟩,hr2⟩ : ∃ r,l.getD j Ent.zero=r:=⟨_,rfl⟩
       rw [hr2] at hP
       have P1:=hD (hP.later (bl_newZ wr (.cells #[.string ⟨xo.toArray⟩,.string ⟨xc.toArray⟩,.bool x1,.bool x2,.bool x3,.bool x4,.bool x5] 126)))
       obtain⟨p,hp⟩ : ∃ p,entLt ⟨po,pc,⟨p1,p2,p3,p4,p5⟩⟩ ⟨xo,xc,⟨x1,x2,x3,x4,x5⟩⟩=p:=⟨_,rfl⟩
       have A8:=hD (rahead8_any po pc p1 p2 p3 p4 p5 xo xc x1 x2 x3 x4 x5 (hD hp))
       have hri:roRiseAt l (j+1)=p:=by
        unfold roRiseAt
        rw [hr,show j+1 - 1=j by omega,hr2,hp]
        simp [hq1,hq2,hoc]
       have em:((j+1:Nat):Int) - 1=(j:Int):=by omega
       have t6:(0:Int)≤(j:Int):=by omega
       have t7:(j:Int) < (l.length:Int):=by omega
       have t8:decide ((0:Int) < ((j+1:Nat):Int))=true:=by rw [decide_eq_true_eq]; omega
       have t8':decide ((0:Int) < (j:Int)+1)=true:=by rw [decide_eq_true_eq]; omega
       have hw1:IntKind.i64.wrap (j:Int)=(j:Int):=IntWalk.i64_in _ (by have:=HL.out; omega)
       have hw2:IntKind.i64.wrap ((j:Int)+1 - 1)=(j:Int):=by rw [IntWalk.i64_in _ (by have:=HL.out; omega)]; omega
       have em':(j:Int)+1 - 1=(j:Int):=by omega
       cases p with
       | false =>
        have HR:roMayD l=false:=roMayD_off hlt (by unfold roDocAt; rw [hri]; rfl)
        rw [h.out] at HR
        subst HR
        clear hr hr2 hq1 hq2 hg hhas hget hmm hz hy hp hri hP
        go_wp2_with fail
        obtain⟨p0',p1',p2',p3',p4',p5',p6'⟩:=cells7_regrown P1.out
        try simp only at p0' p1' p2' p3' p4' p5' p6'
        obtain⟨c0,c1,c2,c3,c4,c5,c6⟩:=cells7_regrown C1.out
        simp only [Nat.zero_add] at c0 c1 c2 c3 c4 c5 c6
        refine wp_region_quiet_below (by kernel_rfl) (by kernel_rfl) ?_
        repeat (go_big_quiet_step (first | with_reducible exact rgS I1.out _ _ _ | with_reducible exact rgS I2.out _ _ _ | with_reducible exact rgB A8.out _ _ _))
        refine wpQuiet_nil ?_
        intro w5 hw5
        have B5:=hD (below2S B1.out (regrown_belowP hw5))
        clear hw5
        go_wp2_with fail
        go_ret
        exact⟨rfl,B5.out⟩
       | true =>
        have HAt:=hD (roDocAt_eq hr hri hg hhas hget hmm hz hy)
        clear hr hr2 hq1 hq2 hoc hg hhas hget hmm hz hy hp hri hP
        go_wp2_with fail
        clear h0 h1 h2 h3 h4 h5 h6
        have CE:=C1
        refine wp_region_held_drew (S:=(fun W => ((W).cell? ⟨wr.heap.size,0,none⟩=some (.string ⟨xo.toArray⟩)∧(W).cell? ⟨wr.heap.size,1,none⟩=some (.string ⟨xc.toArray⟩)∧(W).cell? ⟨wr.heap.size,2,none⟩=some (.bool x1)∧(W).cell? ⟨wr.heap.size,3,none⟩=some (.bool x2)∧(W).cell? ⟨wr.heap.size,4,none⟩=some (.bool x3)∧(W).cell? ⟨wr.heap.size,5,none⟩=some (.bool x4)∧(W).cell? ⟨wr.heap.size,6,none⟩=some (.bool x5)∧(W).cell? ⟨bk,off+j * 7,none⟩=some (.string ⟨po.toArray⟩)∧(W).cell? ⟨bk,off+j * 7+1,none⟩=some (.string ⟨pc.toArray⟩)∧(W).cell? ⟨bk,off+j * 7+2,none⟩=some (.bool p1)∧(W).cell? ⟨bk,off+j * 7+3,none⟩=some (.bool p2)∧(W).cell? ⟨bk,off+j * 7+4,none⟩=some (.bool p3)∧(W).cell? ⟨bk,off+j * 7+5,none⟩=some (.bool p4)∧(W).cell? ⟨bk,off+j * 7+6,none⟩=some (.bool p5)))) (by kernel_rfl) ?_ (fun hHeld => ?_)
        ·exact s14 (C1.out.later (Below.refl _ _).drew) (P1.out.later (Below.refl _ _).drew)
        refine wpAnyH_take (i:=0) (oi:=⟨some 16,.fieldAddr 126 (.tmp 4) 0,0,"ref.go:50",#[],none⟩) (v:=?_) rfl (by as_aux_lemma => kernel_rfl) (by as_aux_lemma => kernel_rfl) (by as_aux_lemma => kernel_rfl) (fun _ _ _ h => h) (Or.inl ⟨by rfl,?_⟩) (by assumption) ?_
        rotate_left
        ·intro w' hSw
         try dsimp only at hSw
         go_simp
         try with_reducible rfl
        try simp only [Act.put,List.setIfInBounds_toArray,List.set_cons_zero,List.set_cons_succ]
        refine wpAnyH_take (i:=1) (oi:=⟨some 17,.load 9 (.tmp 16),9,"ref.go:50",#[⟨0,.data⟩],none⟩) (v:=?_) rfl (by as_aux_lemma => kernel_rfl) (by as_aux_lemma => kernel_rfl) (by as_aux_lemma => kernel_rfl) (fun _ _ _ h => h) (Or.inl ⟨by rfl,?_⟩) (by assumption) ?_
        rotate_left
        ·intro w' hSw
         try dsimp only at hSw
         go_simp
         try with_reducible rfl
        try simp only [Act.put,List.setIfInBounds_toArray,List.set_cons_zero,List.set_cons_succ]
        refine wpAnyH_ready (rs:=[2]) (by as_aux_lemma => kernel_rfl) (by simp) ?_
        refine AllReadyH.cons (o:=⟨some 18,.call { callee:=.value (.func 107),args:=#[.tmp 17],argTypes:=#[9] },4,"ref.go:50",#[⟨1,.data⟩],none⟩) rfl (fun Kx hK => ?_) AllReadyH.nil
        go_simp
        refine (I1.out _).mono ?_
        rintro e w21 ⟨rfl,rfl⟩
        go_wp2_with fail
        refine hK.out _ _ ?_ (fun hHeld2 => ?_)
        ·exact hHeld
        clear hK Kx hHeld
        have hHeld:=hHeld2
        clear hHeld2
        try simp only [Act.put,List.setIfInBounds_toArray,List.set_cons_zero,List.set_cons_succ]
        refine wpAnyH_take (i:=3) (oi:=⟨some 19,.unOp .not 4 (.tmp 18),4,"ref.go:50",#[⟨2,.data⟩],none⟩) (v:=?_) rfl (by as_aux_lemma => kernel_rfl) (by as_aux_lemma => kernel_rfl) (by as_aux_lemma => kernel_rfl) (fun _ _ _ h => h) (Or.inl ⟨by rfl,?_⟩) (by assumption) ?_
        rotate_left
        ·intro w' hSw
         try dsimp only at hSw
         go_simp
         try with_reducible rfl
        try simp only [Act.put,List.setIfInBounds_toArray,List.set_cons_zero,List.set_cons_succ]
        refine wpAnyH_take (i:=4) (oi:=⟨some 20,.move (.tmp 19),4,"ref.go:50",#[⟨3,.data⟩,⟨2,.chain⟩],none⟩) (v:=?_) rfl (by as_aux_lemma => kernel_rfl) (by as_aux_lemma => kernel_rfl) (by as_aux_lemma => kernel_rfl) (fun _ _ _ h => h) (Or.inl ⟨by rfl,?_⟩) (by assumption) ?_
        rotate_left
        ·intro w' hSw
         try dsimp only at hSw
         go_simp
         try with_reducible rfl
        try simp only [Act.put,List.setIfInBounds_toArray,List.set_cons_zero,List.set_cons_succ]
        refine wpAnyH_take (i:=5) (oi:=⟨some 21,.fieldAddr 126 (.tmp 4) 1,0,"ref.go:50",#[⟨4,.guard⟩],some (4,false)⟩) (v:=?_) rfl (by as_aux_lemma => kernel_rfl) (by as_aux_lemma => kernel_rfl) (by as_aux_lemma => kernel_rfl) (fun _ _ _ h => h) (Or.inl ⟨by rfl,?_⟩) (by assumption) ?_
        rotate_left
        ·intro w' hSw
         try dsimp only at hSw
         go_simp
         try with_reducible rfl
        try simp only [Act.put,List.setIfInBounds_toArray,List.set_cons_zero,List.set_cons_succ]
        refine wpAnyH_take (i:=6) (oi:=⟨some 22,.load 9 (.tmp 21),9,"ref.go:50",#[⟨5,.data⟩,⟨4,.guard⟩],some (4,false)⟩) (v:=?_) rfl (by as_aux_lemma => kernel_rfl) (by as_aux_lemma => kernel_rfl) (by as_aux_lemma => kernel_rfl) (fun _ _ _ h => h) (Or.inl ⟨by rfl,?_⟩) (by assumption) ?_
        rotate_left
        ·intro w' hSw
         try dsimp only at hSw
         go_simp
         try with_reducible rfl
        try simp only [Act.put,List.setIfInBounds_toArray,List.set_cons_zero,List.set_cons_succ]
        refine wpAnyH_ready (rs:=[7]) (by as_aux_lemma => kernel_rfl) (by simp) ?_
        refine AllReadyH.cons (o:=⟨some 23,.call { callee:=.value (.func 107),args:=#[.tmp 22],argTypes:=#[9] },4,"ref.go:50",#[⟨6,.data⟩,⟨4,.chain⟩,⟨4,.guard⟩],some (4,false)⟩) rfl (fun Kx hK => ?_) AllReadyH.nil
        go_simp
        refine (I2.out _).mono ?_
        rintro e w22 ⟨rfl,rfl⟩
        go_wp2_with fail
        refine hK.out _ _ ?_ (fun hHeld2 => ?_)
        ·exact hHeld
        clear hK Kx hHeld
        have hHeld:=hHeld2
        clear hHeld2
        try simp only [Act.put,List.setIfInBounds_toArray,List.set_cons_zero,List.set_cons_succ]
        refine wpAnyH_take (i:=8) (oi:=⟨some 24,.unOp .not 4 (.tmp 23),4,"ref.go:50",#[⟨7,.data⟩,⟨4,.guard⟩],some (4,false)⟩) (v:=?_) rfl (by as_aux_lemma => kernel_rfl) (by as_aux_lemma => kernel_rfl) (by as_aux_lemma => kernel_rfl) (fun _ _ _ h => h) (Or.inl ⟨by rfl,?_⟩) (by assumption) ?_
        rotate_left
        ·intro w' hSw
         try dsimp only at hSw
         go_simp
         try with_reducible rfl
        try simp only [Act.put,List.setIfInBounds_toArray,List.set_cons_zero,List.set_cons_succ]
        refine wpAnyH_take (i:=9) (oi:=⟨some 25,.pick (.tmp 20) (.const (.bool true)) (.tmp 24),4,"ref.go:50",#[⟨4,.data⟩,⟨8,.data⟩],none⟩) (v:=?_) rfl (by as_aux_lemma => kernel_rfl) (by as_aux_lemma => kernel_rfl) (by as_aux_lemma => kernel_rfl) (fun _ _ _ h => h) (Or.inl ⟨by rfl,?_⟩) (by assumption) ?_
        rotate_left
        ·intro w' hSw
         try dsimp only at hSw
         go_simp
         try with_reducible rfl
        try simp only [Act.put,List.setIfInBounds_toArray,List.set_cons_zero,List.set_cons_succ]
        refine wpAnyH_take (i:=10) (oi:=⟨some 26,.move (.tmp 25),4,"ref.go:50",#[⟨9,.data⟩,⟨7,.chain⟩],none⟩) (v:=?_) rfl (by as_aux_lemma => kernel_rfl) (by as_aux_lemma => kernel_rfl) (by as_aux_lemma => kernel_rfl) (fun _ _ _ h => h) (Or.inl ⟨by rfl,?_⟩) (by assumption) ?_
        rotate_left
        ·intro w' hSw
         try dsimp only at hSw
         go_simp
         try with_reducible rfl
        try simp only [Act.put,List.setIfInBounds_toArray,List.set_cons_zero,List.set_cons_succ]
        refine wpAnyH_take (i:=11) (oi:=⟨some 27,.fieldAddr 126 (.tmp 4) 0,0,"ref.go:50",#[⟨10,.guard⟩],some (10,false)⟩) (v:=?_) rfl (by as_aux_lemma => kernel_rfl) (by as_aux_lemma => kernel_rfl) (by as_aux_lemma => kernel_rfl) (fun _ _ _ h => h) (Or.inl ⟨by rfl,?_⟩) (by assumption) ?_
        rotate_left
        ·intro w' hSw
         try dsimp only at hSw
         go_simp
         try with_reducible rfl
        try simp only [Act.put,List.setIfInBounds_toArray,List.set_cons_zero,List.set_cons_succ]
        refine wpAnyH_take (i:=12) (oi:=⟨some 28,.load 9 (.tmp 27),9,"ref.go:50",#[⟨11,.data⟩,⟨10,.guard⟩],some (10,false)⟩) (v:=?_) rfl (by as_aux_lemma => kernel_rfl) (by as_aux_lemma => kernel_rfl) (by as_aux_lemma => kernel_rfl) (fun _ _ _ h => h) (Or.inl ⟨by rfl,?_⟩) (by assumption) ?_
        rotate_left
        ·intro w' hSw
         try dsimp only at hSw
         go_simp
         try with_reducible rfl
        try simp only [Act.put,List.setIfInBounds_toArray,List.set_cons_zero,List.set_cons_succ]
        refine wpAnyH_take (i:=13) (oi:=⟨some 29,.fieldAddr 126 (.tmp 4) 1,0,"ref.go:50",#[⟨10,.guard⟩],some (10,false)⟩) (v:=?_) rfl (by as_aux_lemma => kernel_rfl) (by as_aux_lemma => kernel_rfl) (by as_aux_lemma => kernel_rfl) (fun _ _ _ h => h) (Or.inl ⟨by rfl,?_⟩) (by assumption) ?_
        rotate_left
        ·intro w' hSw
         try dsimp only at hSw
         go_simp
         try with_reducible rfl
        try simp only [Act.put,List.setIfInBounds_toArray,List.set_cons_zero,List.set_cons_succ]
        refine wpAnyH_take (i:=14) (oi:=⟨some 30,.load 9 (.tmp 29),9,"ref.go:50",#[⟨13,.data⟩,⟨10,.guard⟩],some (10,false)⟩) (v:=?_) rfl (by as_aux_lemma => kernel_rfl) (by as_aux_lemma => kernel_rfl) (by as_aux_lemma => kernel_rfl) (fun _ _ _ h => h) (Or.inl ⟨by rfl,?_⟩) (by assumption) ?_
        rotate_left
        ·intro w' hSw
         try dsimp only at hSw
         go_simp
         try with_reducible rfl
        try simp only [Act.put,List.setIfInBounds_toArray,List.set_cons_zero,List.set_cons_succ]
        refine wpAnyH_take (i:=15) (oi:=⟨some 31,.binOp .eql 9 (.tmp 28) (.tmp 30) 9,4,"ref.go:50",#[⟨12,.data⟩,⟨14,.data⟩,⟨10,.guard⟩],some (10,false)⟩) (v:=?_) rfl (by as_aux_lemma => kernel_rfl) (by as_aux_lemma => kernel_rfl) (by as_aux_lemma => kernel_rfl) (fun _ _ _ h => h) (Or.inl ⟨by rfl,?_⟩) (by assumption) ?_
        rotate_left
        ·intro w' hSw
         try dsimp only at hSw
         go_simp
         try with_reducible rfl
        try simp only [Act.put,List.setIfInBounds_toArray,List.set_cons_zero,List.set_cons_succ]
        refine wpAnyH_take (i:=16) (oi:=⟨some 32,.pick (.tmp 26) (.const (.bool true)) (.tmp 31),4,"ref.go:50",#[⟨10,.data⟩,⟨15,.data⟩],none⟩) (v:=?_) rfl (by as_aux_lemma => kernel_rfl) (by as_aux_lemma => kernel_rfl) (by as_aux_lemma => kernel_rfl) (fun _ _ _ h => h) (Or.inl ⟨by rfl,?_⟩) (by assumption) ?_
        rotate_left
        ·intro w' hSw
         try dsimp only at hSw
         go_simp
         try with_reducible rfl
        try simp only [Act.put,List.setIfInBounds_toArray,List.set_cons_zero,List.set_cons_succ]
        refine wpAnyH_take (i:=17) (oi:=⟨some 33,.move (.tmp 32),4,"ref.go:50",#[⟨16,.data⟩,⟨10,.chain⟩],none⟩) (v:=?_) rfl (by as_aux_lemma => kernel_rfl) (by as_aux_lemma => kernel_rfl) (by as_aux_lemma => kernel_rfl) (fun _ _ _ h => h) (Or.inl ⟨by rfl,?_⟩) (by assumption) ?_
        rotate_left
        ·intro w' hSw
         try dsimp only at hSw
         go_simp
         try with_reducible rfl
        try simp only [Act.put,List.setIfInBounds_toArray,List.set_cons_zero,List.set_cons_succ]
        refine wpAnyH_take (i:=18) (oi:=⟨some 34,.move (.tmp 3),3,"ref.go:50",#[⟨17,.guard⟩],some (17,false)⟩) (v:=?_) rfl (by as_aux_lemma => kernel_rfl) (by as_aux_lemma => kernel_rfl) (by as_aux_lemma => kernel_rfl) (fun _ _ _ h => h) (Or.inl ⟨by rfl,?_⟩) (by assumption) ?_
        rotate_left
        ·intro w' hSw
         try dsimp only at hSw
         go_simp
         try with_reducible rfl
        try simp only [Act.put,List.setIfInBounds_toArray,List.set_cons_zero,List.set_cons_succ]
        refine wpAnyH_take (i:=19) (oi:=⟨some 35,.binOp .gtr 3 (.tmp 34) (.const (.int .i64 0)) 3,4,"ref.go:50",#[⟨18,.data⟩,⟨17,.guard⟩],some (17,false)⟩) (v:=?_) rfl (by as_aux_lemma => kernel_rfl) (by as_aux_lemma => kernel_rfl) (by as_aux_lemma => kernel_rfl) (fun _ _ _ h => h) (Or.inl ⟨by rfl,?_⟩) (by assumption) ?_
        rotate_left
        ·intro w' hSw
         try dsimp only at hSw
         go_simp
         try with_reducible rfl
        try simp only [Act.put,List.setIfInBounds_toArray,List.set_cons_zero,List.set_cons_succ]
        refine wpAnyH_take (i:=20) (oi:=⟨some 36,.move (.tmp 35),4,"ref.go:50",#[⟨19,.data⟩,⟨17,.chain⟩,⟨17,.guard⟩],some (17,false)⟩) (v:=?_) rfl (by as_aux_lemma => kernel_rfl) (by as_aux_lemma => kernel_rfl) (by as_aux_lemma => kernel_rfl) (fun _ _ _ h => h) (Or.inl ⟨by rfl,?_⟩) (by assumption) ?_
        rotate_left
        ·intro w' hSw
         try dsimp only at hSw
         go_simp
         try with_reducible rfl
        try simp only [Act.put,List.setIfInBounds_toArray,List.set_cons_zero,List.set_cons_succ]
        refine wpAnyH_take (i:=21) (oi:=⟨some 37,.move (.tmp 0),22,"ref.go:50",#[⟨20,.guard⟩],some (20,true)⟩) (v:=?_) rfl (by as_aux_lemma => kernel_rfl) (by as_aux_lemma => kernel_rfl) (by as_aux_lemma => kernel_rfl) (fun _ _ _ h => h) (Or.inl ⟨by rfl,?_⟩) (by assumption) ?_
        rotate_left
        ·intro w' hSw
         try dsimp only at hSw
         go_simp
         try with_reducible rfl
        try simp only [Act.put,List.setIfInBounds_toArray,List.set_cons_zero,List.set_cons_succ]
        refine wpAnyH_take (i:=22) (oi:=⟨some 38,.move (.tmp 3),3,"ref.go:50",#[⟨20,.guard⟩],some (20,true)⟩) (v:=?_) rfl (by as_aux_lemma => kernel_rfl) (by as_aux_lemma => kernel_rfl) (by as_aux_lemma => kernel_rfl) (fun _ _ _ h => h) (Or.inl ⟨by rfl,?_⟩) (by assumption) ?_
        rotate_left
        ·intro w' hSw
         try dsimp only at hSw
         go_simp
         try with_reducible rfl
        try simp only [Act.put,List.setIfInBounds_toArray,List.set_cons_zero,List.set_cons_succ]
        refine wpAnyH_take (i:=23) (oi:=⟨some 39,.binOp .sub 3 (.tmp 38) (.const (.int .i64 1)) 3,3,"ref.go:50",#[⟨22,.data⟩,⟨20,.guard⟩],some (20,true)⟩) (v:=?_) rfl (by as_aux_lemma => kernel_rfl) (by as_aux_lemma => kernel_rfl) (by as_aux_lemma => kernel_rfl) (fun _ _ _ h => h) (Or.inl ⟨by rfl,?_⟩) (by assumption) ?_
        rotate_left
        ·intro w' hSw
         try dsimp only at hSw
         go_simp
         try with_reducible rfl
        try simp only [Act.put,List.setIfInBounds_toArray,List.set_cons_zero,List.set_cons_succ]
        refine wpAnyH_take (i:=24) (oi:=⟨some 40,.indexAddr 22 (.tmp 37) (.tmp 39),0,"ref.go:50",#[⟨21,.data⟩,⟨23,.data⟩,⟨20,.guard⟩],some (20,true)⟩) (v:=?_) rfl (by as_aux_lemma => kernel_rfl) (by as_aux_lemma => kernel_rfl) (by as_aux_lemma => kernel_rfl) (fun _ _ _ h => h) (Or.inl ⟨by rfl,?_⟩) (by assumption) ?_
        rotate_left
        ·intro w' hSw
         try dsimp only at hSw
         go_simp
         try with_reducible rfl
        try simp only [Act.put,List.setIfInBounds_toArray,List.set_cons_zero,List.set_cons_succ]
        refine wpAnyH_take (i:=25) (oi:=⟨some 41,.load 126 (.tmp 40),126,"ref.go:50",#[⟨24,.data⟩,⟨20,.guard⟩],some (20,true)⟩) (v:=?_) rfl (by as_aux_lemma => kernel_rfl) (by as_aux_lemma => kernel_rfl) (by as_aux_lemma => kernel_rfl) (fun _ _ _ h => h) (Or.inl ⟨by rfl,?_⟩) (by assumption) ?_
        rotate_left
        ·intro w' hSw
         try dsimp only at hSw
         go_simp
         try with_reducible rfl
        try simp only [Act.put,List.setIfInBounds_toArray,List.set_cons_zero,List.set_cons_succ]
        refine wpAnyH_take (i:=26) (oi:=⟨some 42,.load 126 (.tmp 4),126,"ref.go:50",#[⟨20,.guard⟩],some (20,true)⟩) (v:=?_) rfl (by as_aux_lemma => kernel_rfl) (by as_aux_lemma => kernel_rfl) (by as_aux_lemma => kernel_rfl) (fun _ _ _ h => h) (Or.inl ⟨by rfl,?_⟩) (by assumption) ?_
        rotate_left
        ·intro w' hSw
         try dsimp only at hSw
         go_simp
         try with_reducible rfl
        try simp only [Act.put,List.setIfInBounds_toArray,List.set_cons_zero,List.set_cons_succ]
        refine wpAnyH_ready (rs:=[27]) (by as_aux_lemma => kernel_rfl) (by simp) ?_
        refine AllReadyH.cons (o:=⟨some 43,.call { callee:=.value (.func 133),args:=#[.tmp 41,.tmp 42],argTypes:=#[126,126] },4,"ref.go:50",#[⟨25,.data⟩,⟨26,.data⟩,⟨20,.chain⟩,⟨20,.guard⟩],some (20,true)⟩) rfl (fun Kx hK => ?_) AllReadyH.nil
        go_simp
        refine (A8.out _).mono ?_
        rintro e w23 ⟨rfl,b23⟩
        have bd:=below2S (Below.refl _ _).drew b23
        have BD:=hD (below2S B1.out bd)
        have CD:=hD (C1.out.later bd)
        have PD:=hD (P1.out.later bd)
        clear bd b23
        go_wp2_with fail
        refine hK.out _ _ ?_ (fun hHeld2 => ?_)
        ·exact s14 (CD.out) (PD.out)
        clear hK Kx hHeld
        have hHeld:=hHeld2
        clear hHeld2
        try simp only [Act.put,List.setIfInBounds_toArray,List.set_cons_zero,List.set_cons_succ]
        refine wpAnyH_take (i:=28) (oi:=⟨some 44,.unOp .not 4 (.tmp 43),4,"ref.go:50",#[⟨27,.data⟩,⟨20,.guard⟩],some (20,true)⟩) (v:=?_) rfl (by as_aux_lemma => kernel_rfl) (by as_aux_lemma => kernel_rfl) (by as_aux_lemma => kernel_rfl) (fun _ _ _ h => h) (Or.inl ⟨by rfl,?_⟩) (by assumption) ?_
        rotate_left
        ·intro w' hSw
         try dsimp only at hSw
         go_simp
         try with_reducible rfl
        try simp only [Act.put,List.setIfInBounds_toArray,List.set_cons_zero,List.set_cons_succ]
        refine wpAnyH_take (i:=29) (oi:=⟨some 45,.pick (.tmp 36) (.tmp 44) (.const (.bool false)),4,"ref.go:50",#[⟨20,.data⟩,⟨28,.data⟩,⟨17,.guard⟩],some (17,false)⟩) (v:=?_) rfl (by as_aux_lemma => kernel_rfl) (by as_aux_lemma => kernel_rfl) (by as_aux_lemma => kernel_rfl) (fun _ _ _ h => h) (Or.inl ⟨by rfl,?_⟩) (by assumption) ?_
        rotate_left
        ·intro w' hSw
         try dsimp only at hSw
         go_simp
         try with_reducible rfl
        try simp only [Act.put,List.setIfInBounds_toArray,List.set_cons_zero,List.set_cons_succ]
        refine wpAnyH_take (i:=30) (oi:=⟨some 46,.pick (.tmp 33) (.const (.bool true)) (.tmp 45),4,"ref.go:50",#[⟨17,.data⟩,⟨29,.data⟩],none⟩) (v:=?_) rfl (by as_aux_lemma => kernel_rfl) (by as_aux_lemma => kernel_rfl) (by as_aux_lemma => kernel_rfl) (fun _ _ _ h => h) (Or.inl ⟨by rfl,?_⟩) (by assumption) ?_
        rotate_left
        ·intro w' hSw
         try dsimp only at hSw
         go_simp
         try with_reducible rfl
        try simp only [Act.put,List.setIfInBounds_toArray,List.set_cons_zero,List.set_cons_succ]
        refine wpAnyH_take (i:=31) (oi:=⟨some 47,.move (.tmp 46),4,"ref.go:50",#[⟨30,.data⟩,⟨27,.chain⟩],none⟩) (v:=?_) rfl (by as_aux_lemma => kernel_rfl) (by as_aux_lemma => kernel_rfl) (by as_aux_lemma => kernel_rfl) (fun _ _ _ h => h) (Or.inl ⟨by rfl,?_⟩) (by assumption) ?_
        rotate_left
        ·intro w' hSw
         try dsimp only at hSw
         go_simp
         try with_reducible rfl
        try simp only [Act.put,List.setIfInBounds_toArray,List.set_cons_zero,List.set_cons_succ]
        refine wpAnyH_take (i:=32) (oi:=⟨some 48,.move (.tmp 0),22,"ref.go:50",#[⟨31,.guard⟩],some (31,false)⟩) (v:=?_) rfl (by as_aux_lemma => kernel_rfl) (by as_aux_lemma => kernel_rfl) (by as_aux_lemma => kernel_rfl) (fun _ _ _ h => h) (Or.inl ⟨by rfl,?_⟩) (by assumption) ?_
        rotate_left
        ·intro w' hSw
         try dsimp only at hSw
         go_simp
         try with_reducible rfl
        try simp only [Act.put,List.setIfInBounds_toArray,List.set_cons_zero,List.set_cons_succ]
        refine wpAnyH_take (i:=33) (oi:=⟨some 49,.fieldAddr 126 (.tmp 4) 0,0,"ref.go:50",#[⟨31,.guard⟩],some (31,false)⟩) (v:=?_) rfl (by as_aux_lemma => kernel_rfl) (by as_aux_lemma => kernel_rfl) (by as_aux_lemma => kernel_rfl) (fun _ _ _ h => h) (Or.inl ⟨by rfl,?_⟩) (by assumption) ?_
        rotate_left
        ·intro w' hSw
         try dsimp only at hSw
         go_simp
         try with_reducible rfl
        try simp only [Act.put,List.setIfInBounds_toArray,List.set_cons_zero,List.set_cons_succ]
        refine wpAnyH_take (i:=34) (oi:=⟨some 50,.load 9 (.tmp 49),9,"ref.go:50",#[⟨33,.data⟩,⟨31,.guard⟩],some (31,false)⟩) (v:=?_) rfl (by as_aux_lemma => kernel_rfl) (by as_aux_lemma => kernel_rfl) (by as_aux_lemma => kernel_rfl) (fun _ _ _ h => h) (Or.inl ⟨by rfl,?_⟩) (by assumption) ?_
        rotate_left
        ·intro w' hSw
         try dsimp only at hSw
         go_simp
         try with_reducible rfl
        try simp only [Act.put,List.setIfInBounds_toArray,List.set_cons_zero,List.set_cons_succ]
        refine wpAnyH_ready (rs:=[35]) (by as_aux_lemma => kernel_rfl) (by simp) ?_
        refine AllReadyH.cons (o:=⟨some 51,.call { callee:=.value (.func 69),args:=#[.tmp 48,.tmp 50],argTypes:=#[22,9] },37,"ref.go:50",#[⟨32,.data⟩,⟨34,.data⟩,⟨31,.chain⟩,⟨31,.guard⟩],some (31,false)⟩) rfl (fun Kx hK => ?_) AllReadyH.nil
        go_simp
        refine (rof_any (HV.out.later BD.out) HL.out xo).mono ?_
        rintro e w24 ⟨u24,rfl,h24,b24⟩
        obtain⟨a24,k24,rfl⟩:=ownT_slice h24
        have BE:=hD (below2S BD.out b24)
        have CE:=hD (CD.out.later b24)
        have PE:=hD (PD.out.later b24)
        clear b24 h24
        go_wp2_with fail
        refine hK.out _ _ ?_ (fun hHeld2 => ?_)
        ·exact s14 (CE.out) (PE.out)
        clear hK Kx hHeld
        have hHeld:=hHeld2
        clear hHeld2
        try simp only [Act.put,List.setIfInBounds_toArray,List.set_cons_zero,List.set_cons_succ]
        refine wpAnyH_take (i:=36) (oi:=⟨some 52,.call { callee:=.builtin .len,args:=#[.tmp 51],argTypes:=#[37] },3,"ref.go:50",#[⟨35,.data⟩,⟨31,.guard⟩],some (31,false)⟩) (v:=?_) rfl (by as_aux_lemma => kernel_rfl) (by as_aux_lemma => kernel_rfl) (by as_aux_lemma => kernel_rfl) (fun _ _ _ h => h) (Or.inl ⟨by rfl,?_⟩) (by assumption) ?_
        rotate_left
        ·intro w' hSw
         try dsimp only at hSw
         go_simp
         try with_reducible rfl
        try simp only [Act.put,List.setIfInBounds_toArray,List.set_cons_zero,List.set_cons_succ]
        refine wpAnyH_take (i:=37) (oi:=⟨some 53,.binOp .gtr 3 (.tmp 52) (.const (.int .i64 16)) 3,4,"ref.go:50",#[⟨36,.data⟩,⟨31,.guard⟩],some (31,false)⟩) (v:=?_) rfl (by as_aux_lemma => kernel_rfl) (by as_aux_lemma => kernel_rfl) (by as_aux_lemma => kernel_rfl) (fun _ _ _ h => h) (Or.inl ⟨by rfl,?_⟩) (by assumption) ?_
        rotate_left
        ·intro w' hSw
         try dsimp only at hSw
         go_simp
         try with_reducible rfl
        try simp only [Act.put,List.setIfInBounds_toArray,List.set_cons_zero,List.set_cons_succ]
        refine wpAnyH_take (i:=38) (oi:=⟨some 54,.pick (.tmp 47) (.const (.bool true)) (.tmp 53),4,"ref.go:50",#[⟨31,.data⟩,⟨37,.data⟩],none⟩) (v:=?_) rfl (by as_aux_lemma => kernel_rfl) (by as_aux_lemma => kernel_rfl) (by as_aux_lemma => kernel_rfl) (fun _ _ _ h => h) (Or.inl ⟨by rfl,?_⟩) (by assumption) ?_
        rotate_left
        ·intro w' hSw
         try dsimp only at hSw
         go_simp
         try with_reducible rfl
        try simp only [Act.put,List.setIfInBounds_toArray,List.set_cons_zero,List.set_cons_succ]
        refine wpAnyH_done (by kernel_rfl) ?_ _
        cases g with
        | true =>
         have HR:roMayD l=false:=roMayD_off hlt (by rw [HAt.out]; simp)
         rw [h.out] at HR
         subst HR
         go_wp2_with fail
         go_ret
         exact⟨rfl,BE.out⟩
        | false =>
         obtain⟨c0,c1,c2,c3,c4,c5,c6⟩:=CE.out
         simp only [Nat.zero_add] at c0 c1 c2 c3 c4 c5 c6
         go_wp2_with fail
         refine (rget8_eq (HV.out.later BE.out) xc xo FG).mono ?_
         rintro e w7 ⟨rfl,b7⟩
         have b8:=below2S b7 (bl_newZ w7 (.cells #[.bool i1,.bool i2,.bool i3,.bool i4,.bool i5] 115))
         have D5:=hD (itAt_made w7 ⟨i1,i2,i3,i4,i5⟩ w7.heap.size rfl)
         replace BE:=hD (below2S BE.out b8)
         replace CE:=hD (CE.out.later b8)
         clear b7 b8 c0 c1 c2 c3 c4 c5 c6
         obtain⟨c0,c1,c2,c3,c4,c5,c6⟩:=CE.out
         obtain⟨d0,d1,d2,d3,d4⟩:=D5.out
         simp only [Nat.zero_add] at c0 c1 c2 c3 c4 c5 c6
         go_wp2_with fail
         have RH:=rhas_any (HV.out.later BE.out) xc xo
         rw [FH.out] at RH
         refine RH.mono ?_
         rintro e w8 ⟨rfl,rfl⟩
         clear RH
         cases hh with
         | false =>
          have HR:roMayD l=false:=roMayD_off hlt (by rw [HAt.out]; simp)
          rw [h.out] at HR
          subst HR
          go_wp2_with fail
          go_ret
          exact⟨rfl,BE.out⟩
         | true =>
          go_wp2_with fail
          refine (MM.out _).mono ?_
          rintro e w9 ⟨rfl,b9⟩
          replace BE:=hD (below2S BE.out b9)
          replace CE:=hD (CE.out.later b9)
          replace D5:=hD (D5.out.later b9)
          clear b9 c0 c1 c2 c3 c4 c5 c6 d0 d1 d2 d3 d4
          obtain⟨c0,c1,c2,c3,c4,c5,c6⟩:=CE.out
          obtain⟨d0,d1,d2,d3,d4⟩:=D5.out
          simp only [Nat.zero_add] at c0 c1 c2 c3 c4 c5 c6
          cases m with
          | false =>
           have HR:roMayD l=false:=roMayD_off hlt (by rw [HAt.out]; simp)
           rw [h.out] at HR
           subst HR
           go_wp2_with fail
           go_ret
           exact⟨rfl,BE.out⟩
          | true =>
           go_wp2_with fail
           refine (MZ.out _).mono ?_
           rintro e w10 ⟨rfl,b10⟩
           replace BE:=hD (below2S BE.out b10)
           replace D5:=hD (D5.out.later b10)
           clear b10 c0 c1 c2 c3 c4 c5 c6 d0 d1 d2 d3 d4
           obtain⟨d0,d1,d2,d3,d4⟩:=D5.out
           cases z with
           | false =>
            have HA2:=hD (roDoc_next HA.out (by rw [HAt.out]; simp))
            clear d0 d1 d2 d3 d4
            go_wp2_with fail
            go_roundw
            case rel => exact⟨j+1+1,by omega,by go_num,BE,HA2⟩
            case measure => simp [intOf]; omega
           | true =>
            go_wp2_with fail
            refine (MY.out _).mono ?_
            rintro e w11 ⟨rfl,b11⟩
            replace BE:=hD (below2S BE.out b11)
            clear b11 d0 d1 d2 d3 d4
            cases y with
            | true =>
             have HR:roMayD l=false:=roMayD_off hlt (by rw [HAt.out]; simp)
             rw [h.out] at HR
             subst HR
             go_wp2_with fail
             go_ret
             exact⟨rfl,BE.out⟩
            | false =>
             have HA2:=hD (roDoc_next HA.out (by rw [HAt.out]; simp))
             go_wp2_with fail
             go_roundw
             case rel => exact⟨j+1+1,by omega,by go_num,BE,HA2⟩
             case measure => simp [intOf]; omega
  ·obtain rfl:k=l.length:=by omega
   have HR:roMayD l=true:=HA.out
   rw [h.out] at HR
   subst HR
   go_wp2_with fail
   go_ret
   exact⟨rfl,HB.out⟩

end Go.Proofs.YtphfinlfabklmaaGreat
