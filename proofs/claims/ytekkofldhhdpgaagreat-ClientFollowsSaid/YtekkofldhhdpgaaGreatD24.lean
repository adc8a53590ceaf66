/-
 TEXTS OF THE PROOF, one behind the other: CliLive.
-/
import Derived.Test.YtekkofldhhdpgaaGreatD23
import Derived.Deep.CutRange

set_option maxHeartbeats 12800000
set_option maxRecDepth 100000

namespace Go.Proofs.YtekkofldhhdpgaaGreat
open Go.RowKit

theorem tab_oneC {W:World} {B:Nat} {c st:List UInt8} {a b d:Int} (h:W.heap[B]?=some (.cells #[.string ⟨c.toArray⟩,.int .i64 a,.int .i64 b,.int .i64 d,.string ⟨st.toArray⟩] 93 (0,0))):Tab W (.slice (some ⟨B,0,none⟩) 1 1) [⟨c,⟨a,b,d,st⟩⟩]:=by
 have h:=cellsAt_block h
 refine ⟨_,1,rfl,by simp,by decide,(fun e => by cases e),.inr ⟨B,0,rfl,World.block_lt_of_cell? W _ (h 0 _ rfl),fun i hi => ?_⟩⟩
 obtain rfl:i=0:=by simpa using hi
 exact⟨h 0 _ rfl,h 1 _ rfl,h 2 _ rfl,h 3 _ rfl,h 4 _ rfl⟩

theorem tab_nilC (X:World):Tab X (.slice none 0 0) []:=OwnR.tab (ownR_nil X 0)

theorem short_nilC:Short []:=fun r h => by cases h

theorem cli_a:Hid (clFeed ⟨[],0,false⟩ ⟨3,3,false,[],⟨0,0,0,[]⟩,0,[⟨[97],⟨4,0,0,[]⟩⟩]⟩=⟨[⟨[97],⟨4,0,0,[]⟩⟩],4,false⟩):=by show _=_; kernel_rfl
theorem cli_b:Hid (clFeed ⟨[⟨[97],⟨4,0,0,[]⟩⟩],4,false⟩ ⟨1,4,true,[98],⟨4,0,0,[]⟩,0,[]⟩=⟨[⟨[97],⟨4,0,0,[]⟩⟩,⟨[98],⟨4,0,0,[]⟩⟩],5,false⟩):=by show _=_; kernel_rfl
theorem cli_c:Hid (clFeed ⟨[⟨[97],⟨4,0,0,[]⟩⟩,⟨[98],⟨4,0,0,[]⟩⟩],5,false⟩ ⟨1,4,false,[97],⟨0,0,0,[]⟩,0,[]⟩=⟨[⟨[97],⟨4,0,0,[]⟩⟩,⟨[98],⟨4,0,0,[]⟩⟩],5,false⟩):=by show _=_; kernel_rfl
theorem cli_d:Hid (clFeed ⟨[⟨[97],⟨4,0,0,[]⟩⟩,⟨[98],⟨4,0,0,[]⟩⟩],5,false⟩ ⟨1,6,false,[97],⟨0,0,0,[]⟩,0,[]⟩=⟨[⟨[97],⟨4,0,0,[]⟩⟩,⟨[98],⟨4,0,0,[]⟩⟩],7,true⟩):=by show _=_; kernel_rfl
theorem cli_e:Hid (clFeed ⟨[⟨[97],⟨4,0,0,[]⟩⟩,⟨[98],⟨4,0,0,[]⟩⟩],5,false⟩ ⟨2,5,false,[],⟨0,0,0,[]⟩,1,[]⟩=⟨[⟨[97],⟨4,0,0,[]⟩⟩,⟨[98],⟨4,0,0,[]⟩⟩],6,true⟩):=by show _=_; kernel_rfl
theorem cli_f:Hid (clFeed ⟨[⟨[97],⟨4,0,0,[]⟩⟩,⟨[98],⟨4,0,0,[]⟩⟩],7,true⟩ ⟨3,7,false,[],⟨0,0,0,[]⟩,0,[]⟩=⟨[],8,false⟩):=by show _=_; kernel_rfl
theorem cli_x:Hid (clAsk ⟨[⟨[97],⟨4,0,0,[]⟩⟩,⟨[98],⟨4,0,0,[]⟩⟩],7,true⟩=(cseal (frPlain ⟨4,7,false,[],⟨0,0,0,[]⟩,0,[]⟩),true)):=by show _=_; kernel_rfl
theorem cli_y:Hid (clAsk ⟨[⟨[97],⟨4,0,0,[]⟩⟩,⟨[98],⟨4,0,0,[]⟩⟩],5,false⟩=([],false)):=by show _=_; kernel_rfl
theorem cli_r:Hid (frDec (cseal (frPlain ⟨4,7,false,[],⟨0,0,0,[]⟩,0,[]⟩))=(⟨4,7,false,[],⟨0,0,0,[]⟩,0,[]⟩,0)):=by show _=_; kernel_rfl
theorem cli_g:Hid (clRead ⟨[⟨[97],⟨4,0,0,[]⟩⟩,⟨[98],⟨4,0,0,[]⟩⟩],5,false⟩ [97,98,99]=(⟨[⟨[97],⟨4,0,0,[]⟩⟩,⟨[98],⟨4,0,0,[]⟩⟩],5,false⟩,2)):=by show _=_; kernel_rfl
theorem cli_s:Hid (clSame ⟨[⟨[97],⟨4,0,0,[]⟩⟩,⟨[98],⟨4,0,0,[]⟩⟩],5,false⟩ ⟨[⟨[97],⟨4,0,0,[]⟩⟩,⟨[98],⟨4,0,0,[]⟩⟩],5,false⟩=true):=by show _=_; kernel_rfl
theorem cli_m:Hid (clMay ⟨[⟨[97],⟨4,0,0,[]⟩⟩,⟨[98],⟨4,0,0,[]⟩⟩],5,false⟩=true):=by show _=_; kernel_rfl
theorem cli_n:Hid (clMay ⟨[],-1,false⟩=false):=by show _=_; kernel_rfl
theorem cli_s1:Short [⟨[97],⟨4,0,0,[]⟩⟩]:=by intro r hr; simp only [List.mem_singleton] at hr; subst hr; exact⟨by decide,by decide⟩
theorem cli_s2:Short [⟨[97],⟨4,0,0,[]⟩⟩,⟨[98],⟨4,0,0,[]⟩⟩]:=by intro r hr; simp only [List.mem_cons,List.not_mem_nil,or_false] at hr; rcases hr with rfl | rfl <;> exact⟨by decide,by decide⟩
theorem cli_l1:(cseal (frPlain ⟨4,7,false,[],⟨0,0,0,[]⟩,0,[]⟩)).length≤4294967296:=by rw [seal_lenP]; decide

theorem tab_keepC {w:World} {v:Value} {t:List Row} (h:Tab w v t) {B:Nat} {a:Option Addr} {n c:Nat} {i:Int} {b:Bool} {T:TypeId} (hb:w.heap[B]?=some (.cells #[.slice a n c,.int .i64 i,.bool b] T (0,0))) {W:World} (hfar:∀ k,¬ k=B→W.heap[k]?=w.heap[k]?) (hsz:w.heap.size≤W.heap.size):Tab W v t:=by
 obtain⟨ad,cap,h1,h2,h3,h4,h5⟩:=h
 refine ⟨ad,cap,h1,h2,h3,h4,?_⟩
 rcases h5 with h5 | ⟨g,off,e,hlt,hc⟩
 ·exact .inl h5
 ·by_cases ht:t=[]
  ·exact .inl ht
  ·have hpos:0 < t.length:=List.length_pos_iff.2 ht
   have hne:¬ g=B:=by
    rintro rfl
    have h5:=(hc 0 hpos).1
    rw [Nat.zero_mul,Nat.add_zero] at h5
    simp only [World.cell?,hb] at h5
    have h6:∀ (j:Nat) (s:ByteArray),(#[.slice a n c,.int .i64 i,.bool b]:Array Value)[j]? ≠ some (Value.string s):=by
     intro j s hj
     match j,hj with
     | 0,hj => simp at hj
     | 1,hj => simp at hj
     | 2,hj => simp at hj
     | j+3,hj => simp at hj
    exact h6 _ _ (by simpa using h5)
   refine .inr ⟨g,off,e,Nat.lt_of_lt_of_le hlt hsz,fun i hi => ?_⟩
   have k:∀ o,W.cell? ⟨g,o,none⟩=w.cell? ⟨g,o,none⟩:=fun o => World.cell?_of_block (hfar g hne)
   obtain⟨c0,c1,c2,c3,c4⟩:=hc i hi
   exact⟨(k _).trans c0,(k _).trans c1,(k _).trans c2,(k _).trans c3,(k _).trans c4⟩

set_option maxRecDepth 1000000 in
theorem live19 (w:World):Calls Tryz.prog 14 #[] w fun e w' => e=.returned (.bool true)∧Below w.heap.size w w':=by
 have HB:=hZq (Below.refl w.heap.size w)
 go_enter Tryz.func14,Tryz.ntmps14
 have b1:=bl_newZ w (.cells #[.int .i64 4,.int .i64 0,.int .i64 0,.string ⟨#[]⟩] 26)
 have VB:=newQ w (.cells #[.int .i64 4,.int .i64 0,.int .i64 0,.string ⟨#[]⟩] 26)
 have hVB:w.heap.size≤w.heap.size:=HB.out.size
 replace HB:=hZq (below2Z HB.out b1)
 clear b1
 replace VB:=hZq VB
 go_upto_region 2 with fail
 generalize w.alloc (.cells #[.int .i64 4,.int .i64 0,.int .i64 0,.string ⟨#[]⟩] 26)=w2 at VB HB ⊢
 go_cut [2] from 17 to 22 (fun p wx => ∃ B ua uc,p=.pointer (some ⟨B,0,none⟩)∧Hid (wx.heap[B]?=some (.cells #[.slice ua 1 uc,.int .i64 4,.bool false] 24 (0,0)))∧Hid (Tab wx (.slice ua 1 uc) [⟨[97],⟨4,0,0,[]⟩⟩])∧Hid (Below w2.heap.size w2 wx))
 case first =>
  obtain⟨BS,hBS⟩ : ∃ BS:List (Nat × List Value),BS=[(w.heap.size,[.int .i64 4,.int .i64 0,.int .i64 0,.string ⟨#[]⟩])]:=⟨_,rfl⟩
  have D0:=hZq (show heldB w2 BS from by rw [hBS]; exact heldB_cons (cellsAt_block VB.out) (heldB_nil _))
  have hq0:∀ X,heldB X BS→X.cell? ⟨w.heap.size,0,none⟩=some (.int .i64 4):=fun X hx => heldB_get (vs:=[.int .i64 4,.int .i64 0,.int .i64 0,.string ⟨#[]⟩]) hx (by rw [hBS]; simp) rfl
  have hq1:∀ X,heldB X BS→X.cell? ⟨w.heap.size,1,none⟩=some (.int .i64 0):=fun X hx => heldB_get (vs:=[.int .i64 4,.int .i64 0,.int .i64 0,.string ⟨#[]⟩]) hx (by rw [hBS]; simp) rfl
  have hq2:∀ X,heldB X BS→X.cell? ⟨w.heap.size,2,none⟩=some (.int .i64 0):=fun X hx => heldB_get (vs:=[.int .i64 4,.int .i64 0,.int .i64 0,.string ⟨#[]⟩]) hx (by rw [hBS]; simp) rfl
  have hq3:∀ X,heldB X BS→X.cell? ⟨w.heap.size,3,none⟩=some (.string ⟨#[]⟩):=fun X hx => heldB_get (vs:=[.int .i64 4,.int .i64 0,.int .i64 0,.string ⟨#[]⟩]) hx (by rw [hBS]; simp) rfl
  clear hBS
  have K0:Hid (Below w2.heap.size w2 w2.drew):=hZq (Below.refl _ _).drew
  refine wp_region_held_drew (S:=(fun X => heldB X BS)) (by kernel_rfl) ?_ (fun hHeld => ?_)
  ·exact heldB_up K0.out D0.out
  generalize w2.drew=z0 at K0 hHeld ⊢
  refine wpAnyH_take (i:=1) (oi:=⟨some 18,.load 26 (.tmp 1),26,"law.go:20",#[],none⟩) (v:=?_) rfl (by as_aux_lemma => kernel_rfl) (by as_aux_lemma => kernel_rfl) (by as_aux_lemma => kernel_rfl) (fun _ _ _ h => h) (Or.inl ⟨by rfl,?_⟩) (by assumption) ?_
  rotate_left
  ·intro w' hSw
   try dsimp only at hSw
   go_simp
   try with_reducible rfl
  try simp only [Act.put,List.setIfInBounds_toArray,List.set_cons_zero,List.set_cons_succ]
  refine wpAnyH_take (i:=2) (oi:=⟨some 19,.build 93 #[(0,.const (.string { data:=#[97] })),(1,.tmp 18)],93,"law.go:20",#[⟨1,.data⟩],none⟩) (v:=?_) rfl (by as_aux_lemma => kernel_rfl) (by as_aux_lemma => kernel_rfl) (by as_aux_lemma => kernel_rfl) (fun _ _ _ h => h) (Or.inl ⟨by rfl,?_⟩) (by assumption) ?_
  rotate_left
  ·intro w' hSw
   try dsimp only at hSw
   go_simp
   try with_reducible rfl
  try simp only [Act.put,List.setIfInBounds_toArray,List.set_cons_zero,List.set_cons_succ]
  refine wpAnyH_ready (rs:=[0,3,6]) (by as_aux_lemma => kernel_rfl) (by simp) ?_
  refine AllReadyH.cons (o:=⟨some 17,.call { callee:=.value (.func 20),args:=#[],argTypes:=#[] },24,"law.go:20",#[],none⟩) rfl (fun Kx hK => ?_) (AllReadyH.cons (o:=⟨some 20,.buildSlice 22 1 #[(0,.tmp 19)],22,"law.go:20",#[⟨2,.data⟩],none⟩) rfl (fun Kx hK => ?_) (AllReadyH.cons (o:=⟨some 2,.alloc 24,0,"law.go:20",#[],none⟩) rfl (fun Kx hK => ?_) (AllReadyH.nil)))
  ·go_simp
   refine (clnew_any _).mono ?_
   rintro e z1 ⟨rfl,bz1⟩
   have K1:=hZq (below2Z K0.out bz1)
   have D1:=hZq (heldB_up K1.out D0.out)
   clear bz1
   go_wp2_with fail
   refine hK.out _ _ ?_ (fun hHeld2 => ?_)
   ·exact D1.out
   clear hK Kx hHeld
   have hHeld:=hHeld2
   clear hHeld2
   try simp only [Act.put,List.setIfInBounds_toArray,List.set_cons_zero,List.set_cons_succ]
   refine wpAnyH_ready (rs:=[3,6]) (by as_aux_lemma => kernel_rfl) (by simp) ?_
   refine AllReadyH.cons (o:=⟨some 20,.buildSlice 22 1 #[(0,.tmp 19)],22,"law.go:20",#[⟨2,.data⟩],none⟩) rfl (fun Kx hK => ?_) (AllReadyH.cons (o:=⟨some 2,.alloc 24,0,"law.go:20",#[],none⟩) rfl (fun Kx hK => ?_) (AllReadyH.nil))
   ·go_simp
    refine hK.out _ _ ?_ (fun hHeld2 => ?_)
    ·exact heldB_up (below2Z K1.out (bl_newZ _ _)) D0.out
    clear hK Kx hHeld
    have hHeld:=hHeld2
    clear hHeld2
    try simp only [Act.put,List.setIfInBounds_toArray,List.set_cons_zero,List.set_cons_succ]
    have bz2:=bl_newZ z1 (.cells #[.string ⟨#[97]⟩,.int .i64 4,.int .i64 0,.int .i64 0,.string ⟨#[]⟩] 93)
    have K2:=hZq (below2Z K1.out bz2)
    have D2:=hZq (heldB_up K2.out D0.out)
    have nz2:=hZq ((MapKept.heap_alloc z1 (.cells #[.string ⟨#[97]⟩,.int .i64 4,.int .i64 0,.int .i64 0,.string ⟨#[]⟩] 93)).1)
    have hB2:w2.heap.size≤z1.heap.size:=(K1.out).size
    clear bz2
    generalize z1.alloc (.cells #[.string ⟨#[97]⟩,.int .i64 4,.int .i64 0,.int .i64 0,.string ⟨#[]⟩] 93)=z2 at K2 D2 nz2 hHeld ⊢
    generalize z1.heap.size=B2 at nz2 hB2  ⊢
    refine wpAnyH_take (i:=4) (oi:=⟨some 21,.build 29 #[(0,.const (.int .i64 3)),(1,.const (.int .i64 3)),(6,.tmp 20)],29,"law.go:20",#[⟨3,.data⟩],none⟩) (v:=?_) rfl (by as_aux_lemma => kernel_rfl) (by as_aux_lemma => kernel_rfl) (by as_aux_lemma => kernel_rfl) (fun _ _ _ h => h) (Or.inl ⟨by rfl,?_⟩) (by assumption) ?_
    rotate_left
    ·intro w' hSw
     try dsimp only at hSw
     go_simp
     try with_reducible rfl
    try simp only [Act.put,List.setIfInBounds_toArray,List.set_cons_zero,List.set_cons_succ]
    refine wpAnyH_ready (rs:=[5,6]) (by as_aux_lemma => kernel_rfl) (by simp) ?_
    refine AllReadyH.cons (o:=⟨some 22,.call { callee:=.value (.func 18),args:=#[.tmp 17,.tmp 21],argTypes:=#[24,29] },24,"law.go:20",#[⟨0,.data⟩,⟨4,.data⟩,⟨0,.chain⟩],none⟩) rfl (fun Kx hK => ?_) (AllReadyH.cons (o:=⟨some 2,.alloc 24,0,"law.go:20",#[],none⟩) rfl (fun Kx hK => ?_) (AllReadyH.nil))
    ·go_simp
     refine (clfeed_any (tab_nilC _) (tab_oneC (c:=[97]) (st:=[]) nz2.out) 0 false short_nilC cli_s1 (by decide) (by decide) (by decide) (by decide) (by decide) cli_a).mono ?_
     rintro e z3 ⟨uA,rfl,hA,bz3⟩
     have K3:=hZq (below2Z K2.out bz3)
     have D3:=hZq (heldB_up K3.out D0.out)
     replace nz2:=hZq (((bz3).block _ (Array.getElem?_eq_some_iff.1 (nz2.out)).1).trans (nz2.out))
     replace hA:=CT.tab hA (tab_nilC _) ((tab_oneC (c:=[97]) (st:=[]) nz2.out))
     obtain⟨ua,uc,rfl,-⟩:=hA.open'
     have TA:=hZq hA
     clear hA
     clear bz3
     go_wp2_with fail
     refine hK.out _ _ ?_ (fun hHeld2 => ?_)
     ·exact D3.out
     clear hK Kx hHeld
     have hHeld:=hHeld2
     clear hHeld2
     try simp only [Act.put,List.setIfInBounds_toArray,List.set_cons_zero,List.set_cons_succ]
     refine wpAnyH_ready (rs:=[6]) (by as_aux_lemma => kernel_rfl) (by simp) ?_
     refine AllReadyH.cons (o:=⟨some 2,.alloc 24,0,"law.go:20",#[],none⟩) rfl (fun Kx hK => ?_) AllReadyH.nil
     go_simp
     refine hK.out _ _ ?_ (fun hHeld2 => ?_)
     ·exact heldB_up (below2Z K3.out (bl_newZ _ _)) D0.out
     clear hK Kx hHeld
     have hHeld:=hHeld2
     clear hHeld2
     try simp only [Act.put,List.setIfInBounds_toArray,List.set_cons_zero,List.set_cons_succ]
     have bz4:=bl_newZ z3 (.cells #[.slice none 0 0,.int .i64 0,.bool false] 24)
     have K4:=hZq (below2Z K3.out bz4)
     have D4:=hZq (heldB_up K4.out D0.out)
     have nz4:=hZq ((MapKept.heap_alloc z3 (.cells #[.slice none 0 0,.int .i64 0,.bool false] 24)).1)
     have hB4:w2.heap.size≤z3.heap.size:=(K3.out).size
     replace nz2:=hZq (((bz4).block _ (Array.getElem?_eq_some_iff.1 (nz2.out)).1).trans (nz2.out))
     replace TA:=hZq (Tab.later (TA.out) bz4)
     clear bz4
     generalize z3.alloc (.cells #[.slice none 0 0,.int .i64 0,.bool false] 24)=z4 at K4 D4 nz4 nz2 TA hHeld ⊢
     generalize z3.heap.size=B4 at nz4 hB4  ⊢
     obtain⟨⟨r0,r1,r2⟩,⟨g0,g1,g2⟩⟩:=blk3 nz4.out
     refine wpAnyH_ready (rs:=[7]) (by as_aux_lemma => kernel_rfl) (by simp) ?_
     refine AllReadyH.cons (o:=⟨none,.store 24 (.tmp 2) (.tmp 22),0,"law.go:20",#[⟨6,.data⟩,⟨5,.data⟩,⟨5,.chain⟩,⟨0,.phase⟩,⟨1,.phase⟩,⟨2,.phase⟩,⟨3,.phase⟩,⟨4,.phase⟩,⟨5,.phase⟩,⟨6,.phase⟩],none⟩) rfl (fun Kx hK => ?_) AllReadyH.nil
     go_simp
     clear r0 r1 r2 g0 g1 g2
     have YB:=hZq (stN3_heap nz4.out (.slice ua 1 uc) (.int .i64 4) (.bool false))
     have KE:=hZq (stN3_below (K4.out) hB4 (.slice ua 1 uc) (.int .i64 4) (.bool false))
     have UZ:=hZq (tab_keepC TA.out nz4.out (fun k hk => stN3_far z4 B4 (.slice ua 1 uc) (.int .i64 4) (.bool false) hk) (by rw [stN3_size]; exact Nat.le_refl _))
     refine hK.out _ _ ?_ (fun hHeld2 => ?_)
     ·exact heldB_up KE.out D0.out
     clear hK Kx hHeld
     have hHeld:=hHeld2
     clear hHeld2
     refine wpAnyH_done (by kernel_rfl) ?_ _
     go_wp2_with fail
     go_meet
     exact⟨B4,ua,uc,rfl,YB,UZ,KE⟩
    ·go_simp
     refine hK.out _ _ ?_ (fun hHeld2 => ?_)
     ·exact heldB_up (below2Z K2.out (bl_newZ _ _)) D0.out
     clear hK Kx hHeld
     have hHeld:=hHeld2
     clear hHeld2
     try simp only [Act.put,List.setIfInBounds_toArray,List.set_cons_zero,List.set_cons_succ]
     have bz6:=bl_newZ z2 (.cells #[.slice none 0 0,.int .i64 0,.bool false] 24)
     have K6:=hZq (below2Z K2.out bz6)
     have D6:=hZq (heldB_up K6.out D0.out)
     have nz6:=hZq ((MapKept.heap_alloc z2 (.cells #[.slice none 0 0,.int .i64 0,.bool false] 24)).1)
     have hB6:w2.heap.size≤z2.heap.size:=(K2.out).size
     replace nz2:=hZq (((bz6).block _ (Array.getElem?_eq_some_iff.1 (nz2.out)).1).trans (nz2.out))
     clear bz6
     generalize z2.alloc (.cells #[.slice none 0 0,.int .i64 0,.bool false] 24)=z6 at K6 D6 nz6 nz2 hHeld ⊢
     generalize z2.heap.size=B6 at nz6 hB6  ⊢
     refine wpAnyH_ready (rs:=[5]) (by as_aux_lemma => kernel_rfl) (by simp) ?_
     refine AllReadyH.cons (o:=⟨some 22,.call { callee:=.value (.func 18),args:=#[.tmp 17,.tmp 21],argTypes:=#[24,29] },24,"law.go:20",#[⟨0,.data⟩,⟨4,.data⟩,⟨0,.chain⟩],none⟩) rfl (fun Kx hK => ?_) AllReadyH.nil
     go_simp
     refine (clfeed_any (tab_nilC _) (tab_oneC (c:=[97]) (st:=[]) nz2.out) 0 false short_nilC cli_s1 (by decide) (by decide) (by decide) (by decide) (by decide) cli_a).mono ?_
     rintro e z7 ⟨uA,rfl,hA,bz7⟩
     have K7:=hZq (below2Z K6.out bz7)
     have D7:=hZq (heldB_up K7.out D0.out)
     replace nz2:=hZq (((bz7).block _ (Array.getElem?_eq_some_iff.1 (nz2.out)).1).trans (nz2.out))
     replace nz6:=hZq (((bz7).block _ (Array.getElem?_eq_some_iff.1 (nz6.out)).1).trans (nz6.out))
     replace hA:=CT.tab hA (tab_nilC _) ((tab_oneC (c:=[97]) (st:=[]) nz2.out))
     obtain⟨ua,uc,rfl,-⟩:=hA.open'
     have TA:=hZq hA
     clear hA
     clear bz7
     go_wp2_with fail
     refine hK.out _ _ ?_ (fun hHeld2 => ?_)
     ·exact D7.out
     clear hK Kx hHeld
     have hHeld:=hHeld2
     clear hHeld2
     try simp only [Act.put,List.setIfInBounds_toArray,List.set_cons_zero,List.set_cons_succ]
     obtain⟨⟨r0,r1,r2⟩,⟨g0,g1,g2⟩⟩:=blk3 nz6.out
     refine wpAnyH_ready (rs:=[7]) (by as_aux_lemma => kernel_rfl) (by simp) ?_
     refine AllReadyH.cons (o:=⟨none,.store 24 (.tmp 2) (.tmp 22),0,"law.go:20",#[⟨6,.data⟩,⟨5,.data⟩,⟨5,.chain⟩,⟨0,.phase⟩,⟨1,.phase⟩,⟨2,.phase⟩,⟨3,.phase⟩,⟨4,.phase⟩,⟨5,.phase⟩,⟨6,.phase⟩],none⟩) rfl (fun Kx hK => ?_) AllReadyH.nil
     go_simp
     clear r0 r1 r2 g0 g1 g2
     have YB:=hZq (stN3_heap nz6.out (.slice ua 1 uc) (.int .i64 4) (.bool false))
     have KE:=hZq (stN3_below (K7.out) hB6 (.slice ua 1 uc) (.int .i64 4) (.bool false))
     have UZ:=hZq (tab_keepC TA.out nz6.out (fun k hk => stN3_far z7 B6 (.slice ua 1 uc) (.int .i64 4) (.bool false) hk) (by rw [stN3_size]; exact Nat.le_refl _))
     refine hK.out _ _ ?_ (fun hHeld2 => ?_)
     ·exact heldB_up KE.out D0.out
     clear hK Kx hHeld
     have hHeld:=hHeld2
     clear hHeld2
     refine wpAnyH_done (by kernel_rfl) ?_ _
     go_wp2_with fail
     go_meet
     exact⟨B6,ua,uc,rfl,YB,UZ,KE⟩
   ·go_simp
    refine hK.out _ _ ?_ (fun hHeld2 => ?_)
    ·exact heldB_up (below2Z K1.out (bl_newZ _ _)) D0.out
    clear hK Kx hHeld
    have hHeld:=hHeld2
    clear hHeld2
    try simp only [Act.put,List.setIfInBounds_toArray,List.set_cons_zero,List.set_cons_succ]
    have bz9:=bl_newZ z1 (.cells #[.slice none 0 0,.int .i64 0,.bool false] 24)
    have K9:=hZq (below2Z K1.out bz9)
    have D9:=hZq (heldB_up K9.out D0.out)
    have nz9:=hZq ((MapKept.heap_alloc z1 (.cells #[.slice none 0 0,.int .i64 0,.bool false] 24)).1)
    have hB9:w2.heap.size≤z1.heap.size:=(K1.out).size
    clear bz9
    generalize z1.alloc (.cells #[.slice none 0 0,.int .i64 0,.bool false] 24)=z9 at K9 D9 nz9 hHeld ⊢
    generalize z1.heap.size=B9 at nz9 hB9  ⊢
    refine wpAnyH_ready (rs:=[3]) (by as_aux_lemma => kernel_rfl) (by simp) ?_
    refine AllReadyH.cons (o:=⟨some 20,.buildSlice 22 1 #[(0,.tmp 19)],22,"law.go:20",#[⟨2,.data⟩],none⟩) rfl (fun Kx hK => ?_) AllReadyH.nil
    go_simp
    refine hK.out _ _ ?_ (fun hHeld2 => ?_)
    ·exact heldB_up (below2Z K9.out (bl_newZ _ _)) D0.out
    clear hK Kx hHeld
    have hHeld:=hHeld2
    clear hHeld2
    try simp only [Act.put,List.setIfInBounds_toArray,List.set_cons_zero,List.set_cons_succ]
    have bz10:=bl_newZ z9 (.cells #[.string ⟨#[97]⟩,.int .i64 4,.int .i64 0,.int .i64 0,.string ⟨#[]⟩] 93)
    have K10:=hZq (below2Z K9.out bz10)
    have D10:=hZq (heldB_up K10.out D0.out)
    have nz10:=hZq ((MapKept.heap_alloc z9 (.cells #[.string ⟨#[97]⟩,.int .i64 4,.int .i64 0,.int .i64 0,.string ⟨#[]⟩] 93)).1)
    have hB10:w2.heap.size≤z9.heap.size:=(K9.out).size
    replace nz9:=hZq (((bz10).block _ (Array.getElem?_eq_some_iff.1 (nz9.out)).1).trans (nz9.out))
    clear bz10
    generalize z9.alloc (.cells #[.string ⟨#[97]⟩,.int .i64 4,.int .i64 0,.int .i64 0,.string ⟨#[]⟩] 93)=z10 at K10 D10 nz10 nz9 hHeld ⊢
    generalize z9.heap.size=B10 at nz10 hB10  ⊢
    refine wpAnyH_take (i:=4) (oi:=⟨some 21,.build 29 #[(0,.const (.int .i64 3)),(1,.const (.int .i64 3)),(6,.tmp 20)],29,"law.go:20",#[⟨3,.data⟩],none⟩) (v:=?_) rfl (by as_aux_lemma => kernel_rfl) (by as_aux_lemma => kernel_rfl) (by as_aux_lemma => kernel_rfl) (fun _ _ _ h => h) (Or.inl ⟨by rfl,?_⟩) (by assumption) ?_
    rotate_left
    ·intro w' hSw
     try dsimp only at hSw
     go_simp
     try with_reducible rfl
    try simp only [Act.put,List.setIfInBounds_toArray,List.set_cons_zero,List.set_cons_succ]
    refine wpAnyH_ready (rs:=[5]) (by as_aux_lemma => kernel_rfl) (by simp) ?_
    refine AllReadyH.cons (o:=⟨some 22,.call { callee:=.value (.func 18),args:=#[.tmp 17,.tmp 21],argTypes:=#[24,29] },24,"law.go:20",#[⟨0,.data⟩,⟨4,.data⟩,⟨0,.chain⟩],none⟩) rfl (fun Kx hK => ?_) AllReadyH.nil
    go_simp
    refine (clfeed_any (tab_nilC _) (tab_oneC (c:=[97]) (st:=[]) nz10.out) 0 false short_nilC cli_s1 (by decide) (by decide) (by decide) (by decide) (by decide) cli_a).mono ?_
    rintro e z11 ⟨uA,rfl,hA,bz11⟩
    have K11:=hZq (below2Z K10.out bz11)
    have D11:=hZq (heldB_up K11.out D0.out)
    replace nz9:=hZq (((bz11).block _ (Array.getElem?_eq_some_iff.1 (nz9.out)).1).trans (nz9.out))
    replace nz10:=hZq (((bz11).block _ (Array.getElem?_eq_some_iff.1 (nz10.out)).1).trans (nz10.out))
    replace hA:=CT.tab hA (tab_nilC _) ((tab_oneC (c:=[97]) (st:=[]) nz10.out))
    obtain⟨ua,uc,rfl,-⟩:=hA.open'
    have TA:=hZq hA
    clear hA
    clear bz11
    go_wp2_with fail
    refine hK.out _ _ ?_ (fun hHeld2 => ?_)
    ·exact D11.out
    clear hK Kx hHeld
    have hHeld:=hHeld2
    clear hHeld2
    try simp only [Act.put,List.setIfInBounds_toArray,List.set_cons_zero,List.set_cons_succ]
    obtain⟨⟨r0,r1,r2⟩,⟨g0,g1,g2⟩⟩:=blk3 nz9.out
    refine wpAnyH_ready (rs:=[7]) (by as_aux_lemma => kernel_rfl) (by simp) ?_
    refine AllReadyH.cons (o:=⟨none,.store 24 (.tmp 2) (.tmp 22),0,"law.go:20",#[⟨6,.data⟩,⟨5,.data⟩,⟨5,.chain⟩,⟨0,.phase⟩,⟨1,.phase⟩,⟨2,.phase⟩,⟨3,.phase⟩,⟨4,.phase⟩,⟨5,.phase⟩,⟨6,.phase⟩],none⟩) rfl (fun Kx hK => ?_) AllReadyH.nil
    go_simp
    clear r0 r1 r2 g0 g1 g2
    have YB:=hZq (stN3_heap nz9.out (.slice ua 1 uc) (.int .i64 4) (.bool false))
    have KE:=hZq (stN3_below (K11.out) hB9 (.slice ua 1 uc) (.int .i64 4) (.bool false))
    have UZ:=hZq (tab_keepC TA.out nz9.out (fun k hk => stN3_far z11 B9 (.slice ua 1 uc) (.int .i64 4) (.bool false) hk) (by rw [stN3_size]; exact Nat.le_refl _))
    refine hK.out _ _ ?_ (fun hHeld2 => ?_)
    ·exact heldB_up KE.out D0.out
    clear hK Kx hHeld
    have hHeld:=hHeld2
    clear hHeld2
    refine wpAnyH_done (by kernel_rfl) ?_ _
    go_wp2_with fail
    go_meet
    exact⟨B9,ua,uc,rfl,YB,UZ,KE⟩
  ·go_simp
   refine hK.out _ _ ?_ (fun hHeld2 => ?_)
   ·exact heldB_up (below2Z K0.out (bl_newZ _ _)) D0.out
   clear hK Kx hHeld
   have hHeld:=hHeld2
   clear hHeld2
   try simp only [Act.put,List.setIfInBounds_toArray,List.set_cons_zero,List.set_cons_succ]
   have bz13:=bl_newZ z0 (.cells #[.string ⟨#[97]⟩,.int .i64 4,.int .i64 0,.int .i64 0,.string ⟨#[]⟩] 93)
   have K13:=hZq (below2Z K0.out bz13)
   have D13:=hZq (heldB_up K13.out D0.out)
   have nz13:=hZq ((MapKept.heap_alloc z0 (.cells #[.string ⟨#[97]⟩,.int .i64 4,.int .i64 0,.int .i64 0,.string ⟨#[]⟩] 93)).1)
   have hB13:w2.heap.size≤z0.heap.size:=(K0.out).size
   clear bz13
   generalize z0.alloc (.cells #[.string ⟨#[97]⟩,.int .i64 4,.int .i64 0,.int .i64 0,.string ⟨#[]⟩] 93)=z13 at K13 D13 nz13 hHeld ⊢
   generalize z0.heap.size=B13 at nz13 hB13  ⊢
   refine wpAnyH_take (i:=4) (oi:=⟨some 21,.build 29 #[(0,.const (.int .i64 3)),(1,.const (.int .i64 3)),(6,.tmp 20)],29,"law.go:20",#[⟨3,.data⟩],none⟩) (v:=?_) rfl (by as_aux_lemma => kernel_rfl) (by as_aux_lemma => kernel_rfl) (by as_aux_lemma => kernel_rfl) (fun _ _ _ h => h) (Or.inl ⟨by rfl,?_⟩) (by assumption) ?_
   rotate_left
   ·intro w' hSw
    try dsimp only at hSw
    go_simp
    try with_reducible rfl
   try simp only [Act.put,List.setIfInBounds_toArray,List.set_cons_zero,List.set_cons_succ]
   refine wpAnyH_ready (rs:=[0,6]) (by as_aux_lemma => kernel_rfl) (by simp) ?_
   refine AllReadyH.cons (o:=⟨some 17,.call { callee:=.value (.func 20),args:=#[],argTypes:=#[] },24,"law.go:20",#[],none⟩) rfl (fun Kx hK => ?_) (AllReadyH.cons (o:=⟨some 2,.alloc 24,0,"law.go:20",#[],none⟩) rfl (fun Kx hK => ?_) (AllReadyH.nil))
   ·go_simp
    refine (clnew_any _).mono ?_
    rintro e z14 ⟨rfl,bz14⟩
    have K14:=hZq (below2Z K13.out bz14)
    have D14:=hZq (heldB_up K14.out D0.out)
    replace nz13:=hZq (((bz14).block _ (Array.getElem?_eq_some_iff.1 (nz13.out)).1).trans (nz13.out))
    clear bz14
    go_wp2_with fail
    refine hK.out _ _ ?_ (fun hHeld2 => ?_)
    ·exact D14.out
    clear hK Kx hHeld
    have hHeld:=hHeld2
    clear hHeld2
    try simp only [Act.put,List.setIfInBounds_toArray,List.set_cons_zero,List.set_cons_succ]
    refine wpAnyH_ready (rs:=[5,6]) (by as_aux_lemma => kernel_rfl) (by simp) ?_
    refine AllReadyH.cons (o:=⟨some 22,.call { callee:=.value (.func 18),args:=#[.tmp 17,.tmp 21],argTypes:=#[24,29] },24,"law.go:20",#[⟨0,.data⟩,⟨4,.data⟩,⟨0,.chain⟩],none⟩) rfl (fun Kx hK => ?_) (AllReadyH.cons (o:=⟨some 2,.alloc 24,0,"law.go:20",#[],none⟩) rfl (fun Kx hK => ?_) (AllReadyH.nil))
    ·go_simp
     refine (clfeed_any (tab_nilC _) (tab_oneC (c:=[97]) (st:=[]) nz13.out) 0 false short_nilC cli_s1 (by decide) (by decide) (by decide) (by decide) (by decide) cli_a).mono ?_
     rintro e z15 ⟨uA,rfl,hA,bz15⟩
     have K15:=hZq (below2Z K14.out bz15)
     have D15:=hZq (heldB_up K15.out D0.out)
     replace nz13:=hZq (((bz15).block _ (Array.getElem?_eq_some_iff.1 (nz13.out)).1).trans (nz13.out))
     replace hA:=CT.tab hA (tab_nilC _) ((tab_oneC (c:=[97]) (st:=[]) nz13.out))
     obtain⟨ua,uc,rfl,-⟩:=hA.open'
     have TA:=hZq hA
     clear hA
     clear bz15
     go_wp2_with fail
     refine hK.out _ _ ?_ (fun hHeld2 => ?_)
     ·exact D15.out
     clear hK Kx hHeld
     have hHeld:=hHeld2
     clear hHeld2
     try simp only [Act.put,List.setIfInBounds_toArray,List.set_cons_zero,List.set_cons_succ]
     refine wpAnyH_ready (rs:=[6]) (by as_aux_lemma => kernel_rfl) (by simp) ?_
     refine AllReadyH.cons (o:=⟨some 2,.alloc 24,0,"law.go:20",#[],none⟩) rfl (fun Kx hK => ?_) AllReadyH.nil
     go_simp
     refine hK.out _ _ ?_ (fun hHeld2 => ?_)
     ·exact heldB_up (below2Z K15.out (bl_newZ _ _)) D0.out
     clear hK Kx hHeld
     have hHeld:=hHeld2
     clear hHeld2
     try simp only [Act.put,List.setIfInBounds_toArray,List.set_cons_zero,List.set_cons_succ]
     have bz16:=bl_newZ z15 (.cells #[.slice none 0 0,.int .i64 0,.bool false] 24)
     have K16:=hZq (below2Z K15.out bz16)
     have D16:=hZq (heldB_up K16.out D0.out)
     have nz16:=hZq ((MapKept.heap_alloc z15 (.cells #[.slice none 0 0,.int .i64 0,.bool false] 24)).1)
     have hB16:w2.heap.size≤z15.heap.size:=(K15.out).size
     replace nz13:=hZq (((bz16).block _ (Array.getElem?_eq_some_iff.1 (nz13.out)).1).trans (nz13.out))
     replace TA:=hZq (Tab.later (TA.out) bz16)
     clear bz16
     generalize z15.alloc (.cells #[.slice none 0 0,.int .i64 0,.bool false] 24)=z16 at K16 D16 nz16 nz13 TA hHeld ⊢
     generalize z15.heap.size=B16 at nz16 hB16  ⊢
     obtain⟨⟨r0,r1,r2⟩,⟨g0,g1,g2⟩⟩:=blk3 nz16.out
     refine wpAnyH_ready (rs:=[7]) (by as_aux_lemma => kernel_rfl) (by simp) ?_
     refine AllReadyH.cons (o:=⟨none,.store 24 (.tmp 2) (.tmp 22),0,"law.go:20",#[⟨6,.data⟩,⟨5,.data⟩,⟨5,.chain⟩,⟨0,.phase⟩,⟨1,.phase⟩,⟨2,.phase⟩,⟨3,.phase⟩,⟨4,.phase⟩,⟨5,.phase⟩,⟨6,.phase⟩],none⟩) rfl (fun Kx hK => ?_) AllReadyH.nil
     go_simp
     clear r0 r1 r2 g0 g1 g2
     have YB:=hZq (stN3_heap nz16.out (.slice ua 1 uc) (.int .i64 4) (.bool false))
     have KE:=hZq (stN3_below (K16.out) hB16 (.slice ua 1 uc) (.int .i64 4) (.bool false))
     have UZ:=hZq (tab_keepC TA.out nz16.out (fun k hk => stN3_far z16 B16 (.slice ua 1 uc) (.int .i64 4) (.bool false) hk) (by rw [stN3_size]; exact Nat.le_refl _))
     refine hK.out _ _ ?_ (fun hHeld2 => ?_)
     ·exact heldB_up KE.out D0.out
     clear hK Kx hHeld
     have hHeld:=hHeld2
     clear hHeld2
     refine wpAnyH_done (by kernel_rfl) ?_ _
     go_wp2_with fail
     go_meet
     exact⟨B16,ua,uc,rfl,YB,UZ,KE⟩
    ·go_simp
     refine hK.out _ _ ?_ (fun hHeld2 => ?_)
     ·exact heldB_up (below2Z K14.out (bl_newZ _ _)) D0.out
     clear hK Kx hHeld
     have hHeld:=hHeld2
     clear hHeld2
     try simp only [Act.put,List.setIfInBounds_toArray,List.set_cons_zero,List.set_cons_succ]
     have bz18:=bl_newZ z14 (.cells #[.slice none 0 0,.int .i64 0,.bool false] 24)
     have K18:=hZq (below2Z K14.out bz18)
     have D18:=hZq (heldB_up K18.out D0.out)
     have nz18:=hZq ((MapKept.heap_alloc z14 (.cells #[.slice none 0 0,.int .i64 0,.bool false] 24)).1)
     have hB18:w2.heap.size≤z14.heap.size:=(K14.out).size
     replace nz13:=hZq (((bz18).block _ (Array.getElem?_eq_some_iff.1 (nz13.out)).1).trans (nz13.out))
     clear bz18
     generalize z14.alloc (.cells #[.slice none 0 0,.int .i64 0,.bool false] 24)=z18 at K18 D18 nz18 nz13 hHeld ⊢
     generalize z14.heap.size=B18 at nz18 hB18  ⊢
     refine wpAnyH_ready (rs:=[5]) (by as_aux_lemma => kernel_rfl) (by simp) ?_
     refine AllReadyH.cons (o:=⟨some 22,.call { callee:=.value (.func 18),args:=#[.tmp 17,.tmp 21],argTypes:=#[24,29] },24,"law.go:20",#[⟨0,.data⟩,⟨4,.data⟩,⟨0,.chain⟩],none⟩) rfl (fun Kx hK => ?_) AllReadyH.nil
     go_simp
     refine (clfeed_any (tab_nilC _) (tab_oneC (c:=[97]) (st:=[]) nz13.out) 0 false short_nilC cli_s1 (by decide) (by decide) (by decide) (by decide) (by decide) cli_a).mono ?_
     rintro e z19 ⟨uA,rfl,hA,bz19⟩
     have K19:=hZq (below2Z K18.out bz19)
     have D19:=hZq (heldB_up K19.out D0.out)
     replace nz13:=hZq (((bz19).block _ (Array.getElem?_eq_some_iff.1 (nz13.out)).1).trans (nz13.out))
     replace nz18:=hZq (((bz19).block _ (Array.getElem?_eq_some_iff.1 (nz18.out)).1).trans (nz18.out))
     replace hA:=CT.tab hA (tab_nilC _) ((tab_oneC (c:=[97]) (st:=[]) nz13.out))
     obtain⟨ua,uc,rfl,-⟩:=hA.open'
     have TA:=hZq hA
     clear hA
     clear bz19
     go_wp2_with fail
     refine hK.out _ _ ?_ (fun hHeld2 => ?_)
     ·exact D19.out
     clear hK Kx hHeld
     have hHeld:=hHeld2
     clear hHeld2
     try simp only [Act.put,List.setIfInBounds_toArray,List.set_cons_zero,List.set_cons_succ]
     obtain⟨⟨r0,r1,r2⟩,⟨g0,g1,g2⟩⟩:=blk3 nz18.out
     refine wpAnyH_ready (rs:=[7]) (by as_aux_lemma => kernel_rfl) (by simp) ?_
     refine AllReadyH.cons (o:=⟨none,.store 24 (.tmp 2) (.tmp 22),0,"law.go:20",#[⟨6,.data⟩,⟨5,.data⟩,⟨5,.chain⟩,⟨0,.phase⟩,⟨1,.phase⟩,⟨2,.phase⟩,⟨3,.phase⟩,⟨4,.phase⟩,⟨5,.phase⟩,⟨6,.phase⟩],none⟩) rfl (fun Kx hK => ?_) AllReadyH.nil
     go_simp
     clear r0 r1 r2 g0 g1 g2
     have YB:=hZq (stN3_heap nz18.out (.slice ua 1 uc) (.int .i64 4) (.bool false))
     have KE:=hZq (stN3_below (K19.out) hB18 (.slice ua 1 uc) (.int .i64 4) (.bool false))
     have UZ:=hZq (tab_keepC TA.out nz18.out (fun k hk => stN3_far z19 B18 (.slice ua 1 uc) (.int .i64 4) (.bool false) hk) (by rw [stN3_size]; exact Nat.le_refl _))
     refine hK.out _ _ ?_ (fun hHeld2 => ?_)
     ·exact heldB_up KE.out D0.out
     clear hK Kx hHeld
     have hHeld:=hHeld2
     clear hHeld2
     refine wpAnyH_done (by kernel_rfl) ?_ _
     go_wp2_with fail
     go_meet
     exact⟨B18,ua,uc,rfl,YB,UZ,KE⟩
   ·go_simp
    refine hK.out _ _ ?_ (fun hHeld2 => ?_)
    ·exact heldB_up (below2Z K13.out (bl_newZ _ _)) D0.out
    clear hK Kx hHeld
    have hHeld:=hHeld2
    clear hHeld2
    try simp only [Act.put,List.setIfInBounds_toArray,List.set_cons_zero,List.set_cons_succ]
    have bz21:=bl_newZ z13 (.cells #[.slice none 0 0,.int .i64 0,.bool false] 24)
    have K21:=hZq (below2Z K13.out bz21)
    have D21:=hZq (heldB_up K21.out D0.out)
    have nz21:=hZq ((MapKept.heap_alloc z13 (.cells #[.slice none 0 0,.int .i64 0,.bool false] 24)).1)
    have hB21:w2.heap.size≤z13.heap.size:=(K13.out).size
    replace nz13:=hZq (((bz21).block _ (Array.getElem?_eq_some_iff.1 (nz13.out)).1).trans (nz13.out))
    clear bz21
    generalize z13.alloc (.cells #[.slice none 0 0,.int .i64 0,.bool false] 24)=z21 at K21 D21 nz21 nz13 hHeld ⊢
    generalize z13.heap.size=B21 at nz21 hB21  ⊢
    refine wpAnyH_ready (rs:=[0]) (by as_aux_lemma => kernel_rfl) (by simp) ?_
    refine AllReadyH.cons (o:=⟨some 17,.call { callee:=.value (.func 20),args:=#[],argTypes:=#[] },24,"law.go:20",#[],none⟩) rfl (fun Kx hK => ?_) AllReadyH.nil
    go_simp
    refine (clnew_any _).mono ?_
    rintro e z22 ⟨rfl,bz22⟩
    have K22:=hZq (below2Z K21.out bz22)
    have D22:=hZq (heldB_up K22.out D0.out)
    replace nz13:=hZq (((bz22).block _ (Array.getElem?_eq_some_iff.1 (nz13.out)).1).trans (nz13.out))
    replace nz21:=hZq (((bz22).block _ (Array.getElem?_eq_some_iff.1 (nz21.out)).1).trans (nz21.out))
    clear bz22
    go_wp2_with fail
    refine hK.out _ _ ?_ (fun hHeld2 => ?_)
    ·exact D22.out
    clear hK Kx hHeld
    have hHeld:=hHeld2
    clear hHeld2
    try simp only [Act.put,List.setIfInBounds_toArray,List.set_cons_zero,List.set_cons_succ]
    refine wpAnyH_ready (rs:=[5]) (by as_aux_lemma => kernel_rfl) (by simp) ?_
    refine AllReadyH.cons (o:=⟨some 22,.call { callee:=.value (.func 18),args:=#[.tmp 17,.tmp 21],argTypes:=#[24,29] },24,"law.go:20",#[⟨0,.data⟩,⟨4,.data⟩,⟨0,.chain⟩],none⟩) rfl (fun Kx hK => ?_) AllReadyH.nil
    go_simp
    refine (clfeed_any (tab_nilC _) (tab_oneC (c:=[97]) (st:=[]) nz13.out) 0 false short_nilC cli_s1 (by decide) (by decide) (by decide) (by decide) (by decide) cli_a).mono ?_
    rintro e z23 ⟨uA,rfl,hA,bz23⟩
    have K23:=hZq (below2Z K22.out bz23)
    have D23:=hZq (heldB_up K23.out D0.out)
    replace nz13:=hZq (((bz23).block _ (Array.getElem?_eq_some_iff.1 (nz13.out)).1).trans (nz13.out))
    replace nz21:=hZq (((bz23).block _ (Array.getElem?_eq_some_iff.1 (nz21.out)).1).trans (nz21.out))
    replace hA:=CT.tab hA (tab_nilC _) ((tab_oneC (c:=[97]) (st:=[]) nz13.out))
    obtain⟨ua,uc,rfl,-⟩:=hA.open'
    have TA:=hZq hA
    clear hA
    clear bz23
    go_wp2_with fail
    refine hK.out _ _ ?_ (fun hHeld2 => ?_)
    ·exact D23.out
    clear hK Kx hHeld
    have hHeld:=hHeld2
    clear hHeld2
    try simp only [Act.put,List.setIfInBounds_toArray,List.set_cons_zero,List.set_cons_succ]
    obtain⟨⟨r0,r1,r2⟩,⟨g0,g1,g2⟩⟩:=blk3 nz21.out
    refine wpAnyH_ready (rs:=[7]) (by as_aux_lemma => kernel_rfl) (by simp) ?_
    refine AllReadyH.cons (o:=⟨none,.store 24 (.tmp 2) (.tmp 22),0,"law.go:20",#[⟨6,.data⟩,⟨5,.data⟩,⟨5,.chain⟩,⟨0,.phase⟩,⟨1,.phase⟩,⟨2,.phase⟩,⟨3,.phase⟩,⟨4,.phase⟩,⟨5,.phase⟩,⟨6,.phase⟩],none⟩) rfl (fun Kx hK => ?_) AllReadyH.nil
    go_simp
    clear r0 r1 r2 g0 g1 g2
    have YB:=hZq (stN3_heap nz21.out (.slice ua 1 uc) (.int .i64 4) (.bool false))
    have KE:=hZq (stN3_below (K23.out) hB21 (.slice ua 1 uc) (.int .i64 4) (.bool false))
    have UZ:=hZq (tab_keepC TA.out nz21.out (fun k hk => stN3_far z23 B21 (.slice ua 1 uc) (.int .i64 4) (.bool false) hk) (by rw [stN3_size]; exact Nat.le_refl _))
    refine hK.out _ _ ?_ (fun hHeld2 => ?_)
    ·exact heldB_up KE.out D0.out
    clear hK Kx hHeld
    have hHeld:=hHeld2
    clear hHeld2
    refine wpAnyH_done (by kernel_rfl) ?_ _
    go_wp2_with fail
    go_meet
    exact⟨B21,ua,uc,rfl,YB,UZ,KE⟩
  ·go_simp
   refine hK.out _ _ ?_ (fun hHeld2 => ?_)
   ·exact heldB_up (below2Z K0.out (bl_newZ _ _)) D0.out
   clear hK Kx hHeld
   have hHeld:=hHeld2
   clear hHeld2
   try simp only [Act.put,List.setIfInBounds_toArray,List.set_cons_zero,List.set_cons_succ]
   have bz25:=bl_newZ z0 (.cells #[.slice none 0 0,.int .i64 0,.bool false] 24)
   have K25:=hZq (below2Z K0.out bz25)
   have D25:=hZq (heldB_up K25.out D0.out)
   have nz25:=hZq ((MapKept.heap_alloc z0 (.cells #[.slice none 0 0,.int .i64 0,.bool false] 24)).1)
   have hB25:w2.heap.size≤z0.heap.size:=(K0.out).size
   clear bz25
   generalize z0.alloc (.cells #[.slice none 0 0,.int .i64 0,.bool false] 24)=z25 at K25 D25 nz25 hHeld ⊢
   generalize z0.heap.size=B25 at nz25 hB25  ⊢
   refine wpAnyH_ready (rs:=[0,3]) (by as_aux_lemma => kernel_rfl) (by simp) ?_
   refine AllReadyH.cons (o:=⟨some 17,.call { callee:=.value (.func 20),args:=#[],argTypes:=#[] },24,"law.go:20",#[],none⟩) rfl (fun Kx hK => ?_) (AllReadyH.cons (o:=⟨some 20,.buildSlice 22 1 #[(0,.tmp 19)],22,"law.go:20",#[⟨2,.data⟩],none⟩) rfl (fun Kx hK => ?_) (AllReadyH.nil))
   ·go_simp
    refine (clnew_any _).mono ?_
    rintro e z26 ⟨rfl,bz26⟩
    have K26:=hZq (below2Z K25.out bz26)
    have D26:=hZq (heldB_up K26.out D0.out)
    replace nz25:=hZq (((bz26).block _ (Array.getElem?_eq_some_iff.1 (nz25.out)).1).trans (nz25.out))
    clear bz26
    go_wp2_with fail
    refine hK.out _ _ ?_ (fun hHeld2 => ?_)
    ·exact D26.out
    clear hK Kx hHeld
    have hHeld:=hHeld2
    clear hHeld2
    try simp only [Act.put,List.setIfInBounds_toArray,List.set_cons_zero,List.set_cons_succ]
    refine wpAnyH_ready (rs:=[3]) (by as_aux_lemma => kernel_rfl) (by simp) ?_
    refine AllReadyH.cons (o:=⟨some 20,.buildSlice 22 1 #[(0,.tmp 19)],22,"law.go:20",#[⟨2,.data⟩],none⟩) rfl (fun Kx hK => ?_) AllReadyH.nil
    go_simp
    refine hK.out _ _ ?_ (fun hHeld2 => ?_)
    ·exact heldB_up (below2Z K26.out (bl_newZ _ _)) D0.out
    clear hK Kx hHeld
    have hHeld:=hHeld2
    clear hHeld2
    try simp only [Act.put,List.setIfInBounds_toArray,List.set_cons_zero,List.set_cons_succ]
    have bz27:=bl_newZ z26 (.cells #[.string ⟨#[97]⟩,.int .i64 4,.int .i64 0,.int .i64 0,.string ⟨#[]⟩] 93)
    have K27:=hZq (below2Z K26.out bz27)
    have D27:=hZq (heldB_up K27.out D0.out)
    have nz27:=hZq ((MapKept.heap_alloc z26 (.cells #[.string ⟨#[97]⟩,.int .i64 4,.int .i64 0,.int .i64 0,.string ⟨#[]⟩] 93)).1)
    have hB27:w2.heap.size≤z26.heap.size:=(K26.out).size
    replace nz25:=hZq (((bz27).block _ (Array.getElem?_eq_some_iff.1 (nz25.out)).1).trans (nz25.out))
    clear bz27
    generalize z26.alloc (.cells #[.string ⟨#[97]⟩,.int .i64 4,.int .i64 0,.int .i64 0,.string ⟨#[]⟩] 93)=z27 at K27 D27 nz27 nz25 hHeld ⊢
    generalize z26.heap.size=B27 at nz27 hB27  ⊢
    refine wpAnyH_take (i:=4) (oi:=⟨some 21,.build 29 #[(0,.const (.int .i64 3)),(1,.const (.int .i64 3)),(6,.tmp 20)],29,"law.go:20",#[⟨3,.data⟩],none⟩) (v:=?_) rfl (by as_aux_lemma => kernel_rfl) (by as_aux_lemma => kernel_rfl) (by as_aux_lemma => kernel_rfl) (fun _ _ _ h => h) (Or.inl ⟨by rfl,?_⟩) (by assumption) ?_
    rotate_left
    ·intro w' hSw
     try dsimp only at hSw
     go_simp
     try with_reducible rfl
    try simp only [Act.put,List.setIfInBounds_toArray,List.set_cons_zero,List.set_cons_succ]
    refine wpAnyH_ready (rs:=[5]) (by as_aux_lemma => kernel_rfl) (by simp) ?_
    refine AllReadyH.cons (o:=⟨some 22,.call { callee:=.value (.func 18),args:=#[.tmp 17,.tmp 21],argTypes:=#[24,29] },24,"law.go:20",#[⟨0,.data⟩,⟨4,.data⟩,⟨0,.chain⟩],none⟩) rfl (fun Kx hK => ?_) AllReadyH.nil
    go_simp
    refine (clfeed_any (tab_nilC _) (tab_oneC (c:=[97]) (st:=[]) nz27.out) 0 false short_nilC cli_s1 (by decide) (by decide) (by decide) (by decide) (by decide) cli_a).mono ?_
    rintro e z28 ⟨uA,rfl,hA,bz28⟩
    have K28:=hZq (below2Z K27.out bz28)
    have D28:=hZq (heldB_up K28.out D0.out)
    replace nz25:=hZq (((bz28).block _ (Array.getElem?_eq_some_iff.1 (nz25.out)).1).trans (nz25.out))
    replace nz27:=hZq (((bz28).block _ (Array.getElem?_eq_some_iff.1 (nz27.out)).1).trans (nz27.out))
    replace hA:=CT.tab hA (tab_nilC _) ((tab_oneC (c:=[97]) (st:=[]) nz27.out))
    obtain⟨ua,uc,rfl,-⟩:=hA.open'
    have TA:=hZq hA
    clear hA
    clear bz28
    go_wp2_with fail
    refine hK.out _ _ ?_ (fun hHeld2 => ?_)
    ·exact D28.out
    clear hK Kx hHeld
    have hHeld:=hHeld2
    clear hHeld2
    try simp only [Act.put,List.setIfInBounds_toArray,List.set_cons_zero,List.set_cons_succ]
    obtain⟨⟨r0,r1,r2⟩,⟨g0,g1,g2⟩⟩:=blk3 nz25.out
    refine wpAnyH_ready (rs:=[7]) (by as_aux_lemma => kernel_rfl) (by simp) ?_
    refine AllReadyH.cons (o:=⟨none,.store 24 (.tmp 2) (.tmp 22),0,"law.go:20",#[⟨6,.data⟩,⟨5,.data⟩,⟨5,.chain⟩,⟨0,.phase⟩,⟨1,.phase⟩,⟨2,.phase⟩,⟨3,.phase⟩,⟨4,.phase⟩,⟨5,.phase⟩,⟨6,.phase⟩],none⟩) rfl (fun Kx hK => ?_) AllReadyH.nil
    go_simp
    clear r0 r1 r2 g0 g1 g2
    have YB:=hZq (stN3_heap nz25.out (.slice ua 1 uc) (.int .i64 4) (.bool false))
    have KE:=hZq (stN3_below (K28.out) hB25 (.slice ua 1 uc) (.int .i64 4) (.bool false))
    have UZ:=hZq (tab_keepC TA.out nz25.out (fun k hk => stN3_far z28 B25 (.slice ua 1 uc) (.int .i64 4) (.bool false) hk) (by rw [stN3_size]; exact Nat.le_refl _))
    refine hK.out _ _ ?_ (fun hHeld2 => ?_)
    ·exact heldB_up KE.out D0.out
    clear hK Kx hHeld
    have hHeld:=hHeld2
    clear hHeld2
    refine wpAnyH_done (by kernel_rfl) ?_ _
    go_wp2_with fail
    go_meet
    exact⟨B25,ua,uc,rfl,YB,UZ,KE⟩
   ·go_simp
    refine hK.out _ _ ?_ (fun hHeld2 => ?_)
    ·exact heldB_up (below2Z K25.out (bl_newZ _ _)) D0.out
    clear hK Kx hHeld
    have hHeld:=hHeld2
    clear hHeld2
    try simp only [Act.put,List.setIfInBounds_toArray,List.set_cons_zero,List.set_cons_succ]
    have bz30:=bl_newZ z25 (.cells #[.string ⟨#[97]⟩,.int .i64 4,.int .i64 0,.int .i64 0,.string ⟨#[]⟩] 93)
    have K30:=hZq (below2Z K25.out bz30)
    have D30:=hZq (heldB_up K30.out D0.out)
    have nz30:=hZq ((MapKept.heap_alloc z25 (.cells #[.string ⟨#[97]⟩,.int .i64 4,.int .i64 0,.int .i64 0,.string ⟨#[]⟩] 93)).1)
    have hB30:w2.heap.size≤z25.heap.size:=(K25.out).size
    replace nz25:=hZq (((bz30).block _ (Array.getElem?_eq_some_iff.1 (nz25.out)).1).trans (nz25.out))
    clear bz30
    generalize z25.alloc (.cells #[.string ⟨#[97]⟩,.int .i64 4,.int .i64 0,.int .i64 0,.string ⟨#[]⟩] 93)=z30 at K30 D30 nz30 nz25 hHeld ⊢
    generalize z25.heap.size=B30 at nz30 hB30  ⊢
    refine wpAnyH_take (i:=4) (oi:=⟨some 21,.build 29 #[(0,.const (.int .i64 3)),(1,.const (.int .i64 3)),(6,.tmp 20)],29,"law.go:20",#[⟨3,.data⟩],none⟩) (v:=?_) rfl (by as_aux_lemma => kernel_rfl) (by as_aux_lemma => kernel_rfl) (by as_aux_lemma => kernel_rfl) (fun _ _ _ h => h) (Or.inl ⟨by rfl,?_⟩) (by assumption) ?_
    rotate_left
    ·intro w' hSw
     try dsimp only at hSw
     go_simp
     try with_reducible rfl
    try simp only [Act.put,List.setIfInBounds_toArray,List.set_cons_zero,List.set_cons_succ]
    refine wpAnyH_ready (rs:=[0]) (by as_aux_lemma => kernel_rfl) (by simp) ?_
    refine AllReadyH.cons (o:=⟨some 17,.call { callee:=.value (.func 20),args:=#[],argTypes:=#[] },24,"law.go:20",#[],none⟩) rfl (fun Kx hK => ?_) AllReadyH.nil
    go_simp
    refine (clnew_any _).mono ?_
    rintro e z31 ⟨rfl,bz31⟩
    have K31:=hZq (below2Z K30.out bz31)
    have D31:=hZq (heldB_up K31.out D0.out)
    replace nz25:=hZq (((bz31).block _ (Array.getElem?_eq_some_iff.1 (nz25.out)).1).trans (nz25.out))
    replace nz30:=hZq (((bz31).block _ (Array.getElem?_eq_some_iff.1 (nz30.out)).1).trans (nz30.out))
    clear bz31
    go_wp2_with fail
    refine hK.out _ _ ?_ (fun hHeld2 => ?_)
    ·exact D31.out
    clear hK Kx hHeld
    have hHeld:=hHeld2
    clear hHeld2
    try simp only [Act.put,List.setIfInBounds_toArray,List.set_cons_zero,List.set_cons_succ]
    refine wpAnyH_ready (rs:=[5]) (by as_aux_lemma => kernel_rfl) (by simp) ?_
    refine AllReadyH.cons (o:=⟨some 22,.call { callee:=.value (.func 18),args:=#[.tmp 17,.tmp 21],argTypes:=#[24,29] },24,"law.go:20",#[⟨0,.data⟩,⟨4,.data⟩,⟨0,.chain⟩],none⟩) rfl (fun Kx hK => ?_) AllReadyH.nil
    go_simp
    refine (clfeed_any (tab_nilC _) (tab_oneC (c:=[97]) (st:=[]) nz30.out) 0 false short_nilC cli_s1 (by decide) (by decide) (by decide) (by decide) (by decide) cli_a).mono ?_
    rintro e z32 ⟨uA,rfl,hA,bz32⟩
    have K32:=hZq (below2Z K31.out bz32)
    have D32:=hZq (heldB_up K32.out D0.out)
    replace nz25:=hZq (((bz32).block _ (Array.getElem?_eq_some_iff.1 (nz25.out)).1).trans (nz25.out))
    replace nz30:=hZq (((bz32).block _ (Array.getElem?_eq_some_iff.1 (nz30.out)).1).trans (nz30.out))
    replace hA:=CT.tab hA (tab_nilC _) ((tab_oneC (c:=[97]) (st:=[]) nz30.out))
    obtain⟨ua,uc,rfl,-⟩:=hA.open'
    have TA:=hZq hA
    clear hA
    clear bz32
    go_wp2_with fail
    refine hK.out _ _ ?_ (fun hHeld2 => ?_)
    ·exact D32.out
    clear hK Kx hHeld
    have hHeld:=hHeld2
    clear hHeld2
    try simp only [Act.put,List.setIfInBounds_toArray,List.set_cons_zero,List.set_cons_succ]
    obtain⟨⟨r0,r1,r2⟩,⟨g0,g1,g2⟩⟩:=blk3 nz25.out
    refine wpAnyH_ready (rs:=[7]) (by as_aux_lemma => kernel_rfl) (by simp) ?_
    refine AllReadyH.cons (o:=⟨none,.store 24 (.tmp 2) (.tmp 22),0,"law.go:20",#[⟨6,.data⟩,⟨5,.data⟩,⟨5,.chain⟩,⟨0,.phase⟩,⟨1,.phase⟩,⟨2,.phase⟩,⟨3,.phase⟩,⟨4,.phase⟩,⟨5,.phase⟩,⟨6,.phase⟩],none⟩) rfl (fun Kx hK => ?_) AllReadyH.nil
    go_simp
    clear r0 r1 r2 g0 g1 g2
    have YB:=hZq (stN3_heap nz25.out (.slice ua 1 uc) (.int .i64 4) (.bool false))
    have KE:=hZq (stN3_below (K32.out) hB25 (.slice ua 1 uc) (.int .i64 4) (.bool false))
    have UZ:=hZq (tab_keepC TA.out nz25.out (fun k hk => stN3_far z32 B25 (.slice ua 1 uc) (.int .i64 4) (.bool false) hk) (by rw [stN3_size]; exact Nat.le_refl _))
    refine hK.out _ _ ?_ (fun hHeld2 => ?_)
    ·exact heldB_up KE.out D0.out
    clear hK Kx hHeld
    have hHeld:=hHeld2
    clear hHeld2
    refine wpAnyH_done (by kernel_rfl) ?_ _
    go_wp2_with fail
    go_meet
    exact⟨B25,ua,uc,rfl,YB,UZ,KE⟩
 case rest =>
  obtain⟨BA,ua,uc,rfl,LN,QN,KB⟩:=hcut
  obtain⟨w3,hw3⟩ : ∃ X,X=wc:=⟨_,rfl⟩
  subst hw3
  replace VB:=hZq (upQ VB.out KB.out)
  replace HB:=hZq (below2Z HB.out KB.out)
  clear KB
  have LA:=LN
  clear LN
  have TA:=QN
  clear QN
  obtain⟨⟨VBc0,VBc1,VBc2,VBc3⟩,⟨VBf0,VBf1,VBf2,VBf3⟩⟩:=blk4 VB.out
  obtain⟨⟨LAc0,LAc1,LAc2⟩,⟨LAf0,LAf1,LAf2⟩⟩:=blk3 LA.out
  go_wp2_with fail
  clear VBc0 VBc1 VBc2 VBc3 VBf0 VBf1 VBf2 VBf3 LAc0 LAc1 LAc2 LAf0 LAf1 LAf2
  refine (clfeed_any TA.out (tab_nilC _) 4 false cli_s1 short_nilC (by decide) (by decide) (by decide) (by decide) (by decide) cli_b).mono ?_
  rintro e w4 ⟨uB,rfl,hB,b4⟩
  replace VB:=hZq (upQ VB.out b4)
  replace LA:=hZq (upQ LA.out b4)
  replace TA:=hZq (Tab.later TA.out b4)
  replace HB:=hZq (below2Z HB.out b4)
  replace hB:=CT.tab hB TA.out (tab_nilC _)
  obtain⟨uBa,uBc,rfl,-⟩:=hB.open'
  have TB:=hZq hB
  clear hB
  clear b4
  have b5:=bl_newZ w4 (.cells #[.slice uBa 2 uBc,.int .i64 5,.bool false] 24)
  have LB:=newQ w4 (.cells #[.slice uBa 2 uBc,.int .i64 5,.bool false] 24)
  have hLB:w.heap.size≤w4.heap.size:=HB.out.size
  replace VB:=hZq (upQ VB.out b5)
  replace LA:=hZq (upQ LA.out b5)
  replace TA:=hZq (Tab.later TA.out b5)
  replace TB:=hZq (Tab.later TB.out b5)
  replace HB:=hZq (below2Z HB.out b5)
  clear b5
  replace LB:=hZq LB
  go_upto_region 4 with fail
  generalize w4.alloc (.cells #[.slice uBa 2 uBc,.int .i64 5,.bool false] 24)=w6 at VB LA LB TA TB HB ⊢
  obtain⟨⟨LBc0,LBc1,LBc2⟩,⟨LBf0,LBf1,LBf2⟩⟩:=blk3 LB.out
  go_wp2_with fail
  clear LBc0 LBc1 LBc2 LBf0 LBf1 LBf2
  refine (clfeed_any TB.out (tab_nilC _) 5 false cli_s2 short_nilC (by decide) (by decide) (by decide) (by decide) (by decide) cli_c).mono ?_
  rintro e w7 ⟨uC,rfl,hC,b7⟩
  replace VB:=hZq (upQ VB.out b7)
  replace LA:=hZq (upQ LA.out b7)
  replace LB:=hZq (upQ LB.out b7)
  replace TA:=hZq (Tab.later TA.out b7)
  replace TB:=hZq (Tab.later TB.out b7)
  replace HB:=hZq (below2Z HB.out b7)
  replace hC:=CT.tab hC TB.out (tab_nilC _)
  obtain⟨uCa,uCc,rfl,-⟩:=hC.open'
  have TC:=hZq hC
  clear hC
  clear b7
  have b8:=bl_newZ w7 (.cells #[.slice uCa 2 uCc,.int .i64 5,.bool false] 24)
  have LC:=newQ w7 (.cells #[.slice uCa 2 uCc,.int .i64 5,.bool false] 24)
  have hLC:w.heap.size≤w7.heap.size:=HB.out.size
  replace VB:=hZq (upQ VB.out b8)
  replace LA:=hZq (upQ LA.out b8)
  replace LB:=hZq (upQ LB.out b8)
  replace TA:=hZq (Tab.later TA.out b8)
  replace TB:=hZq (Tab.later TB.out b8)
  replace TC:=hZq (Tab.later TC.out b8)
  replace HB:=hZq (below2Z HB.out b8)
  clear b8
  replace LC:=hZq LC
  go_upto_region 5 with fail
  generalize w7.alloc (.cells #[.slice uCa 2 uCc,.int .i64 5,.bool false] 24)=w9 at VB LA LB LC TA TB TC HB ⊢
  obtain⟨⟨LBc0,LBc1,LBc2⟩,⟨LBf0,LBf1,LBf2⟩⟩:=blk3 LB.out
  go_wp2_with fail
  clear LBc0 LBc1 LBc2 LBf0 LBf1 LBf2
  refine (clfeed_any TB.out (tab_nilC _) 5 false cli_s2 short_nilC (by decide) (by decide) (by decide) (by decide) (by decide) cli_d).mono ?_
  rintro e w10 ⟨uD,rfl,hD,b10⟩
  replace VB:=hZq (upQ VB.out b10)
  replace LA:=hZq (upQ LA.out b10)
  replace LB:=hZq (upQ LB.out b10)
  replace LC:=hZq (upQ LC.out b10)
  replace TA:=hZq (Tab.later TA.out b10)
  replace TB:=hZq (Tab.later TB.out b10)
  replace TC:=hZq (Tab.later TC.out b10)
  replace HB:=hZq (below2Z HB.out b10)
  replace hD:=CT.tab hD TB.out (tab_nilC _)
  obtain⟨uDa,uDc,rfl,-⟩:=hD.open'
  have TD:=hZq hD
  clear hD
  clear b10
  have b11:=bl_newZ w10 (.cells #[.slice uDa 2 uDc,.int .i64 7,.bool true] 24)
  have LD:=newQ w10 (.cells #[.slice uDa 2 uDc,.int .i64 7,.bool true] 24)
  have hLD:w.heap.size≤w10.heap.size:=HB.out.size
  replace VB:=hZq (upQ VB.out b11)
  replace LA:=hZq (upQ LA.out b11)
  replace LB:=hZq (upQ LB.out b11)
  replace LC:=hZq (upQ LC.out b11)
  replace TA:=hZq (Tab.later TA.out b11)
  replace TB:=hZq (Tab.later TB.out b11)
  replace TC:=hZq (Tab.later TC.out b11)
  replace TD:=hZq (Tab.later TD.out b11)
  replace HB:=hZq (below2Z HB.out b11)
  clear b11
  replace LD:=hZq LD
  go_upto_region 6 with fail
  generalize w10.alloc (.cells #[.slice uDa 2 uDc,.int .i64 7,.bool true] 24)=w12 at VB LA LB LC LD TA TB TC TD HB ⊢
  obtain⟨⟨LBc0,LBc1,LBc2⟩,⟨LBf0,LBf1,LBf2⟩⟩:=blk3 LB.out
  go_wp2_with fail
  clear LBc0 LBc1 LBc2 LBf0 LBf1 LBf2
  refine (clfeed_any TB.out (tab_nilC _) 5 false cli_s2 short_nilC (by decide) (by decide) (by decide) (by decide) (by decide) cli_e).mono ?_
  rintro e w13 ⟨uE,rfl,hE,b13⟩
  replace VB:=hZq (upQ VB.out b13)
  replace LA:=hZq (upQ LA.out b13)
  replace LB:=hZq (upQ LB.out b13)
  replace LC:=hZq (upQ LC.out b13)
  replace LD:=hZq (upQ LD.out b13)
  replace TA:=hZq (Tab.later TA.out b13)
  replace TB:=hZq (Tab.later TB.out b13)
  replace TC:=hZq (Tab.later TC.out b13)
  replace TD:=hZq (Tab.later TD.out b13)
  replace HB:=hZq (below2Z HB.out b13)
  replace hE:=CT.tab hE TB.out (tab_nilC _)
  obtain⟨uEa,uEc,rfl,-⟩:=hE.open'
  have TE:=hZq hE
  clear hE
  clear b13
  have b14:=bl_newZ w13 (.cells #[.slice uEa 2 uEc,.int .i64 6,.bool true] 24)
  have LE:=newQ w13 (.cells #[.slice uEa 2 uEc,.int .i64 6,.bool true] 24)
  have hLE:w.heap.size≤w13.heap.size:=HB.out.size
  replace VB:=hZq (upQ VB.out b14)
  replace LA:=hZq (upQ LA.out b14)
  replace LB:=hZq (upQ LB.out b14)
  replace LC:=hZq (upQ LC.out b14)
  replace LD:=hZq (upQ LD.out b14)
  replace TA:=hZq (Tab.later TA.out b14)
  replace TB:=hZq (Tab.later TB.out b14)
  replace TC:=hZq (Tab.later TC.out b14)
  replace TD:=hZq (Tab.later TD.out b14)
  replace TE:=hZq (Tab.later TE.out b14)
  replace HB:=hZq (below2Z HB.out b14)
  clear b14
  replace LE:=hZq LE
  go_upto_region 7 with fail
  generalize w13.alloc (.cells #[.slice uEa 2 uEc,.int .i64 6,.bool true] 24)=w15 at VB LA LB LC LD LE TA TB TC TD TE HB ⊢
  obtain⟨⟨LDc0,LDc1,LDc2⟩,⟨LDf0,LDf1,LDf2⟩⟩:=blk3 LD.out
  go_wp2_with fail
  clear LDc0 LDc1 LDc2 LDf0 LDf1 LDf2
  refine (clfeed_any TD.out (tab_nilC _) 7 true cli_s2 short_nilC (by decide) (by decide) (by decide) (by decide) (by decide) cli_f).mono ?_
  rintro e w16 ⟨uF,rfl,hF,b16⟩
  replace VB:=hZq (upQ VB.out b16)
  replace LA:=hZq (upQ LA.out b16)
  replace LB:=hZq (upQ LB.out b16)
  replace LC:=hZq (upQ LC.out b16)
  replace LD:=hZq (upQ LD.out b16)
  replace LE:=hZq (upQ LE.out b16)
  replace TA:=hZq (Tab.later TA.out b16)
  replace TB:=hZq (Tab.later TB.out b16)
  replace TC:=hZq (Tab.later TC.out b16)
  replace TD:=hZq (Tab.later TD.out b16)
  replace TE:=hZq (Tab.later TE.out b16)
  replace HB:=hZq (below2Z HB.out b16)
  replace hF:=CT.tab hF TD.out (tab_nilC _)
  obtain⟨uFa,uFc,rfl,-⟩:=hF.open'
  have TF:=hZq hF
  clear hF
  clear b16
  have b17:=bl_newZ w16 (.cells #[.slice uFa 0 uFc,.int .i64 8,.bool false] 24)
  have LF:=newQ w16 (.cells #[.slice uFa 0 uFc,.int .i64 8,.bool false] 24)
  have hLF:w.heap.size≤w16.heap.size:=HB.out.size
  replace VB:=hZq (upQ VB.out b17)
  replace LA:=hZq (upQ LA.out b17)
  replace LB:=hZq (upQ LB.out b17)
  replace LC:=hZq (upQ LC.out b17)
  replace LD:=hZq (upQ LD.out b17)
  replace LE:=hZq (upQ LE.out b17)
  replace TA:=hZq (Tab.later TA.out b17)
  replace TB:=hZq (Tab.later TB.out b17)
  replace TC:=hZq (Tab.later TC.out b17)
  replace TD:=hZq (Tab.later TD.out b17)
  replace TE:=hZq (Tab.later TE.out b17)
  replace TF:=hZq (Tab.later TF.out b17)
  replace HB:=hZq (below2Z HB.out b17)
  clear b17
  replace LF:=hZq LF
  go_upto_region 8 with fail
  generalize w16.alloc (.cells #[.slice uFa 0 uFc,.int .i64 8,.bool false] 24)=w18 at VB LA LB LC LD LE LF TA TB TC TD TE TF HB ⊢
  obtain⟨⟨LDc0,LDc1,LDc2⟩,⟨LDf0,LDf1,LDf2⟩⟩:=blk3 LD.out
  go_wp2_with fail
  clear LDc0 LDc1 LDc2 LDf0 LDf1 LDf2
  refine (clask_any TD.out 7 true cli_s2 cli_x).mono ?_
  rintro e w19 ⟨rfl,b19⟩
  replace VB:=hZq (upQ VB.out b19)
  replace LA:=hZq (upQ LA.out b19)
  replace LB:=hZq (upQ LB.out b19)
  replace LC:=hZq (upQ LC.out b19)
  replace LD:=hZq (upQ LD.out b19)
  replace LE:=hZq (upQ LE.out b19)
  replace LF:=hZq (upQ LF.out b19)
  replace TA:=hZq (Tab.later TA.out b19)
  replace TB:=hZq (Tab.later TB.out b19)
  replace TC:=hZq (Tab.later TC.out b19)
  replace TD:=hZq (Tab.later TD.out b19)
  replace TE:=hZq (Tab.later TE.out b19)
  replace TF:=hZq (Tab.later TF.out b19)
  replace HB:=hZq (below2Z HB.out b19)
  clear b19
  go_upto_region 9 with fail
  obtain⟨⟨LBc0,LBc1,LBc2⟩,⟨LBf0,LBf1,LBf2⟩⟩:=blk3 LB.out
  go_wp2_with fail
  clear LBc0 LBc1 LBc2 LBf0 LBf1 LBf2
  refine (clask_any TB.out 5 false cli_s2 cli_y).mono ?_
  rintro e w20 ⟨rfl,b20⟩
  replace VB:=hZq (upQ VB.out b20)
  replace LA:=hZq (upQ LA.out b20)
  replace LB:=hZq (upQ LB.out b20)
  replace LC:=hZq (upQ LC.out b20)
  replace LD:=hZq (upQ LD.out b20)
  replace LE:=hZq (upQ LE.out b20)
  replace LF:=hZq (upQ LF.out b20)
  replace TA:=hZq (Tab.later TA.out b20)
  replace TB:=hZq (Tab.later TB.out b20)
  replace TC:=hZq (Tab.later TC.out b20)
  replace TD:=hZq (Tab.later TD.out b20)
  replace TE:=hZq (Tab.later TE.out b20)
  replace TF:=hZq (Tab.later TF.out b20)
  replace HB:=hZq (below2Z HB.out b20)
  clear b20
  go_upto_region 10 with fail
  go_wp2_with fail
  refine (frdec_any _ cli_l1 cli_r _).mono ?_
  rintro e w21 ⟨vr,rfl,hr,b21⟩
  replace VB:=hZq (upQ VB.out b21)
  replace LA:=hZq (upQ LA.out b21)
  replace LB:=hZq (upQ LB.out b21)
  replace LC:=hZq (upQ LC.out b21)
  replace LD:=hZq (upQ LD.out b21)
  replace LE:=hZq (upQ LE.out b21)
  replace LF:=hZq (upQ LF.out b21)
  replace TA:=hZq (Tab.later TA.out b21)
  replace TB:=hZq (Tab.later TB.out b21)
  replace TC:=hZq (Tab.later TC.out b21)
  replace TD:=hZq (Tab.later TD.out b21)
  replace TE:=hZq (Tab.later TE.out b21)
  replace TF:=hZq (Tab.later TF.out b21)
  replace HB:=hZq (below2Z HB.out b21)
  obtain⟨vra,vrc,rfl,-⟩:=Tab.open' (OwnR.tab hr)
  clear hr
  clear b21
  have b22:=bl_newZ w21 (.cells #[.int .i64 4,.int .i64 7,.bool false,.string ⟨([]:List UInt8).toArray⟩,.int .i64 0,.int .i64 0,.int .i64 0,.string ⟨([]:List UInt8).toArray⟩,.int .u64 0,.slice vra 0 vrc] 29)
  have LR:=newQ w21 (.cells #[.int .i64 4,.int .i64 7,.bool false,.string ⟨([]:List UInt8).toArray⟩,.int .i64 0,.int .i64 0,.int .i64 0,.string ⟨([]:List UInt8).toArray⟩,.int .u64 0,.slice vra 0 vrc] 29)
  have hLR:w.heap.size≤w21.heap.size:=HB.out.size
  replace VB:=hZq (upQ VB.out b22)
  replace LA:=hZq (upQ LA.out b22)
  replace LB:=hZq (upQ LB.out b22)
  replace LC:=hZq (upQ LC.out b22)
  replace LD:=hZq (upQ LD.out b22)
  replace LE:=hZq (upQ LE.out b22)
  replace LF:=hZq (upQ LF.out b22)
  replace TA:=hZq (Tab.later TA.out b22)
  replace TB:=hZq (Tab.later TB.out b22)
  replace TC:=hZq (Tab.later TC.out b22)
  replace TD:=hZq (Tab.later TD.out b22)
  replace TE:=hZq (Tab.later TE.out b22)
  replace TF:=hZq (Tab.later TF.out b22)
  replace HB:=hZq (below2Z HB.out b22)
  clear b22
  replace LR:=hZq LR
  go_upto_region 11 with fail
  generalize w21.alloc (.cells #[.int .i64 4,.int .i64 7,.bool false,.string ⟨([]:List UInt8).toArray⟩,.int .i64 0,.int .i64 0,.int .i64 0,.string ⟨([]:List UInt8).toArray⟩,.int .u64 0,.slice vra 0 vrc] 29)=w23 at VB LA LB LC LD LE LF LR TA TB TC TD TE TF HB ⊢
  obtain⟨⟨LBc0,LBc1,LBc2⟩,⟨LBf0,LBf1,LBf2⟩⟩:=blk3 LB.out
  go_wp2_with fail
  clear LBc0 LBc1 LBc2 LBf0 LBf1 LBf2
  refine (clread_any TB.out cli_s2 (by decide) 5 false [97,98,99] (by decide) cli_g).mono ?_
  rintro e w24 ⟨uG,rfl,hG,b24⟩
  replace VB:=hZq (upQ VB.out b24)
  replace LA:=hZq (upQ LA.out b24)
  replace LB:=hZq (upQ LB.out b24)
  replace LC:=hZq (upQ LC.out b24)
  replace LD:=hZq (upQ LD.out b24)
  replace LE:=hZq (upQ LE.out b24)
  replace LF:=hZq (upQ LF.out b24)
  replace LR:=hZq (upQ LR.out b24)
  replace TA:=hZq (Tab.later TA.out b24)
  replace TB:=hZq (Tab.later TB.out b24)
  replace TC:=hZq (Tab.later TC.out b24)
  replace TD:=hZq (Tab.later TD.out b24)
  replace TE:=hZq (Tab.later TE.out b24)
  replace TF:=hZq (Tab.later TF.out b24)
  replace HB:=hZq (below2Z HB.out b24)
  replace hG:=RT.tab hG TB.out
  obtain⟨uGa,uGc,rfl,-⟩:=hG.open'
  have TG:=hZq hG
  clear hG
  clear b24
  have b25:=bl_newZ w24 (.cells #[.slice uGa 2 uGc,.int .i64 5,.bool false] 24)
  have LG:=newQ w24 (.cells #[.slice uGa 2 uGc,.int .i64 5,.bool false] 24)
  have hLG:w.heap.size≤w24.heap.size:=HB.out.size
  replace VB:=hZq (upQ VB.out b25)
  replace LA:=hZq (upQ LA.out b25)
  replace LB:=hZq (upQ LB.out b25)
  replace LC:=hZq (upQ LC.out b25)
  replace LD:=hZq (upQ LD.out b25)
  replace LE:=hZq (upQ LE.out b25)
  replace LF:=hZq (upQ LF.out b25)
  replace LR:=hZq (upQ LR.out b25)
  replace TA:=hZq (Tab.later TA.out b25)
  replace TB:=hZq (Tab.later TB.out b25)
  replace TC:=hZq (Tab.later TC.out b25)
  replace TD:=hZq (Tab.later TD.out b25)
  replace TE:=hZq (Tab.later TE.out b25)
  replace TF:=hZq (Tab.later TF.out b25)
  replace TG:=hZq (Tab.later TG.out b25)
  replace HB:=hZq (below2Z HB.out b25)
  clear b25
  replace LG:=hZq LG
  go_upto_region 12 with fail
  generalize w24.alloc (.cells #[.slice uGa 2 uGc,.int .i64 5,.bool false] 24)=w26 at VB LA LB LC LD LE LF LR LG TA TB TC TD TE TF TG HB ⊢
  obtain⟨⟨LAc0,LAc1,LAc2⟩,⟨LAf0,LAf1,LAf2⟩⟩:=blk3 LA.out
  obtain⟨⟨LBc0,LBc1,LBc2⟩,⟨LBf0,LBf1,LBf2⟩⟩:=blk3 LB.out
  obtain⟨⟨LCc0,LCc1,LCc2⟩,⟨LCf0,LCf1,LCf2⟩⟩:=blk3 LC.out
  obtain⟨⟨LDc0,LDc1,LDc2⟩,⟨LDf0,LDf1,LDf2⟩⟩:=blk3 LD.out
  obtain⟨⟨LEc0,LEc1,LEc2⟩,⟨LEf0,LEf1,LEf2⟩⟩:=blk3 LE.out
  obtain⟨⟨LFc0,LFc1,LFc2⟩,⟨LFf0,LFf1,LFf2⟩⟩:=blk3 LF.out
  obtain⟨⟨LRc0,LRc1,LRc2,LRc3,LRc4,LRc5,LRc6,LRc7,LRc8,LRc9⟩,⟨LRf0,LRf1,LRf2,LRf3,LRf4,LRf5,LRf6,LRf7,LRf8,LRf9⟩⟩:=blk10 LR.out
  obtain⟨⟨LGc0,LGc1,LGc2⟩,⟨LGf0,LGf1,LGf2⟩⟩:=blk3 LG.out
  go_wp2_with fail
  clear LAc0 LAc1 LAc2 LAf0 LAf1 LAf2 LBc0 LBc1 LBc2 LBf0 LBf1 LBf2 LCc0 LCc1 LCc2 LCf0 LCf1 LCf2 LDc0 LDc1 LDc2 LDf0 LDf1 LDf2 LEc0 LEc1 LEc2 LEf0 LEf1 LEf2 LFc0 LFc1 LFc2 LFf0 LFf1 LFf2 LRc0 LRc1 LRc2 LRc3 LRc4 LRc5 LRc6 LRc7 LRc8 LRc9 LRf0 LRf1 LRf2 LRf3 LRf4 LRf5 LRf6 LRf7 LRf8 LRf9 LGc0 LGc1 LGc2 LGf0 LGf1 LGf2
  refine (clsame_eq TB.out TC.out 5 5 false false cli_s).mono ?_
  rintro e w27 ⟨rfl,b27⟩
  replace VB:=hZq (upQ VB.out b27)
  replace LA:=hZq (upQ LA.out b27)
  replace LB:=hZq (upQ LB.out b27)
  replace LC:=hZq (upQ LC.out b27)
  replace LD:=hZq (upQ LD.out b27)
  replace LE:=hZq (upQ LE.out b27)
  replace LF:=hZq (upQ LF.out b27)
  replace LR:=hZq (upQ LR.out b27)
  replace LG:=hZq (upQ LG.out b27)
  replace TA:=hZq (Tab.later TA.out b27)
  replace TB:=hZq (Tab.later TB.out b27)
  replace TC:=hZq (Tab.later TC.out b27)
  replace TD:=hZq (Tab.later TD.out b27)
  replace TE:=hZq (Tab.later TE.out b27)
  replace TF:=hZq (Tab.later TF.out b27)
  replace TG:=hZq (Tab.later TG.out b27)
  replace HB:=hZq (below2Z HB.out b27)
  clear b27
  obtain⟨⟨LAc0,LAc1,LAc2⟩,⟨LAf0,LAf1,LAf2⟩⟩:=blk3 LA.out
  obtain⟨⟨LBc0,LBc1,LBc2⟩,⟨LBf0,LBf1,LBf2⟩⟩:=blk3 LB.out
  obtain⟨⟨LCc0,LCc1,LCc2⟩,⟨LCf0,LCf1,LCf2⟩⟩:=blk3 LC.out
  obtain⟨⟨LDc0,LDc1,LDc2⟩,⟨LDf0,LDf1,LDf2⟩⟩:=blk3 LD.out
  obtain⟨⟨LEc0,LEc1,LEc2⟩,⟨LEf0,LEf1,LEf2⟩⟩:=blk3 LE.out
  obtain⟨⟨LFc0,LFc1,LFc2⟩,⟨LFf0,LFf1,LFf2⟩⟩:=blk3 LF.out
  obtain⟨⟨LRc0,LRc1,LRc2,LRc3,LRc4,LRc5,LRc6,LRc7,LRc8,LRc9⟩,⟨LRf0,LRf1,LRf2,LRf3,LRf4,LRf5,LRf6,LRf7,LRf8,LRf9⟩⟩:=blk10 LR.out
  obtain⟨⟨LGc0,LGc1,LGc2⟩,⟨LGf0,LGf1,LGf2⟩⟩:=blk3 LG.out
  go_wp2_with fail
  clear LAc0 LAc1 LAc2 LAf0 LAf1 LAf2 LBc0 LBc1 LBc2 LBf0 LBf1 LBf2 LCc0 LCc1 LCc2 LCf0 LCf1 LCf2 LDc0 LDc1 LDc2 LDf0 LDf1 LDf2 LEc0 LEc1 LEc2 LEf0 LEf1 LEf2 LFc0 LFc1 LFc2 LFf0 LFf1 LFf2 LRc0 LRc1 LRc2 LRc3 LRc4 LRc5 LRc6 LRc7 LRc8 LRc9 LRf0 LRf1 LRf2 LRf3 LRf4 LRf5 LRf6 LRf7 LRf8 LRf9 LGc0 LGc1 LGc2 LGf0 LGf1 LGf2
  refine (clsame_eq TG.out TB.out 5 5 false false cli_s).mono ?_
  rintro e w28 ⟨rfl,b28⟩
  replace VB:=hZq (upQ VB.out b28)
  replace LA:=hZq (upQ LA.out b28)
  replace LB:=hZq (upQ LB.out b28)
  replace LC:=hZq (upQ LC.out b28)
  replace LD:=hZq (upQ LD.out b28)
  replace LE:=hZq (upQ LE.out b28)
  replace LF:=hZq (upQ LF.out b28)
  replace LR:=hZq (upQ LR.out b28)
  replace LG:=hZq (upQ LG.out b28)
  replace TA:=hZq (Tab.later TA.out b28)
  replace TB:=hZq (Tab.later TB.out b28)
  replace TC:=hZq (Tab.later TC.out b28)
  replace TD:=hZq (Tab.later TD.out b28)
  replace TE:=hZq (Tab.later TE.out b28)
  replace TF:=hZq (Tab.later TF.out b28)
  replace TG:=hZq (Tab.later TG.out b28)
  replace HB:=hZq (below2Z HB.out b28)
  clear b28
  obtain⟨⟨LAc0,LAc1,LAc2⟩,⟨LAf0,LAf1,LAf2⟩⟩:=blk3 LA.out
  obtain⟨⟨LBc0,LBc1,LBc2⟩,⟨LBf0,LBf1,LBf2⟩⟩:=blk3 LB.out
  obtain⟨⟨LCc0,LCc1,LCc2⟩,⟨LCf0,LCf1,LCf2⟩⟩:=blk3 LC.out
  obtain⟨⟨LDc0,LDc1,LDc2⟩,⟨LDf0,LDf1,LDf2⟩⟩:=blk3 LD.out
  obtain⟨⟨LEc0,LEc1,LEc2⟩,⟨LEf0,LEf1,LEf2⟩⟩:=blk3 LE.out
  obtain⟨⟨LFc0,LFc1,LFc2⟩,⟨LFf0,LFf1,LFf2⟩⟩:=blk3 LF.out
  obtain⟨⟨LRc0,LRc1,LRc2,LRc3,LRc4,LRc5,LRc6,LRc7,LRc8,LRc9⟩,⟨LRf0,LRf1,LRf2,LRf3,LRf4,LRf5,LRf6,LRf7,LRf8,LRf9⟩⟩:=blk10 LR.out
  obtain⟨⟨LGc0,LGc1,LGc2⟩,⟨LGf0,LGf1,LGf2⟩⟩:=blk3 LG.out
  go_wp2_with fail
  clear LAc0 LAc1 LAc2 LAf0 LAf1 LAf2 LBc0 LBc1 LBc2 LBf0 LBf1 LBf2 LCc0 LCc1 LCc2 LCf0 LCf1 LCf2 LDc0 LDc1 LDc2 LDf0 LDf1 LDf2 LEc0 LEc1 LEc2 LEf0 LEf1 LEf2 LFc0 LFc1 LFc2 LFf0 LFf1 LFf2 LRc0 LRc1 LRc2 LRc3 LRc4 LRc5 LRc6 LRc7 LRc8 LRc9 LRf0 LRf1 LRf2 LRf3 LRf4 LRf5 LRf6 LRf7 LRf8 LRf9 LGc0 LGc1 LGc2 LGf0 LGf1 LGf2
  refine (clmay_eq TB.out cli_s2 5 false cli_m).mono ?_
  rintro e w29 ⟨rfl,b29⟩
  replace VB:=hZq (upQ VB.out b29)
  replace LA:=hZq (upQ LA.out b29)
  replace LB:=hZq (upQ LB.out b29)
  replace LC:=hZq (upQ LC.out b29)
  replace LD:=hZq (upQ LD.out b29)
  replace LE:=hZq (upQ LE.out b29)
  replace LF:=hZq (upQ LF.out b29)
  replace LR:=hZq (upQ LR.out b29)
  replace LG:=hZq (upQ LG.out b29)
  replace TA:=hZq (Tab.later TA.out b29)
  replace TB:=hZq (Tab.later TB.out b29)
  replace TC:=hZq (Tab.later TC.out b29)
  replace TD:=hZq (Tab.later TD.out b29)
  replace TE:=hZq (Tab.later TE.out b29)
  replace TF:=hZq (Tab.later TF.out b29)
  replace TG:=hZq (Tab.later TG.out b29)
  replace HB:=hZq (below2Z HB.out b29)
  clear b29
  obtain⟨⟨LAc0,LAc1,LAc2⟩,⟨LAf0,LAf1,LAf2⟩⟩:=blk3 LA.out
  obtain⟨⟨LBc0,LBc1,LBc2⟩,⟨LBf0,LBf1,LBf2⟩⟩:=blk3 LB.out
  obtain⟨⟨LCc0,LCc1,LCc2⟩,⟨LCf0,LCf1,LCf2⟩⟩:=blk3 LC.out
  obtain⟨⟨LDc0,LDc1,LDc2⟩,⟨LDf0,LDf1,LDf2⟩⟩:=blk3 LD.out
  obtain⟨⟨LEc0,LEc1,LEc2⟩,⟨LEf0,LEf1,LEf2⟩⟩:=blk3 LE.out
  obtain⟨⟨LFc0,LFc1,LFc2⟩,⟨LFf0,LFf1,LFf2⟩⟩:=blk3 LF.out
  obtain⟨⟨LRc0,LRc1,LRc2,LRc3,LRc4,LRc5,LRc6,LRc7,LRc8,LRc9⟩,⟨LRf0,LRf1,LRf2,LRf3,LRf4,LRf5,LRf6,LRf7,LRf8,LRf9⟩⟩:=blk10 LR.out
  obtain⟨⟨LGc0,LGc1,LGc2⟩,⟨LGf0,LGf1,LGf2⟩⟩:=blk3 LG.out
  go_wp2_with fail
  clear LAc0 LAc1 LAc2 LAf0 LAf1 LAf2 LBc0 LBc1 LBc2 LBf0 LBf1 LBf2 LCc0 LCc1 LCc2 LCf0 LCf1 LCf2 LDc0 LDc1 LDc2 LDf0 LDf1 LDf2 LEc0 LEc1 LEc2 LEf0 LEf1 LEf2 LFc0 LFc1 LFc2 LFf0 LFf1 LFf2 LRc0 LRc1 LRc2 LRc3 LRc4 LRc5 LRc6 LRc7 LRc8 LRc9 LRf0 LRf1 LRf2 LRf3 LRf4 LRf5 LRf6 LRf7 LRf8 LRf9 LGc0 LGc1 LGc2 LGf0 LGf1 LGf2
  refine (clmay_eq (tab_nilC _) short_nilC (-1) false cli_n).mono ?_
  rintro e w30 ⟨rfl,b30⟩
  replace VB:=hZq (upQ VB.out b30)
  replace LA:=hZq (upQ LA.out b30)
  replace LB:=hZq (upQ LB.out b30)
  replace LC:=hZq (upQ LC.out b30)
  replace LD:=hZq (upQ LD.out b30)
  replace LE:=hZq (upQ LE.out b30)
  replace LF:=hZq (upQ LF.out b30)
  replace LR:=hZq (upQ LR.out b30)
  replace LG:=hZq (upQ LG.out b30)
  replace TA:=hZq (Tab.later TA.out b30)
  replace TB:=hZq (Tab.later TB.out b30)
  replace TC:=hZq (Tab.later TC.out b30)
  replace TD:=hZq (Tab.later TD.out b30)
  replace TE:=hZq (Tab.later TE.out b30)
  replace TF:=hZq (Tab.later TF.out b30)
  replace TG:=hZq (Tab.later TG.out b30)
  replace HB:=hZq (below2Z HB.out b30)
  clear b30
  go_wp2_with fail
  go_ret
  exact⟨rfl,HB.out⟩

end Go.Proofs.YtekkofldhhdpgaaGreat
