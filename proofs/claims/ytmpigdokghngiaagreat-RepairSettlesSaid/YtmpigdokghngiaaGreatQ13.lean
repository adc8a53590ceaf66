/-
 TEXTS OF THE PROOF, one behind the other: FraTkAt, FraDec, FraRsame, FraSame.
-/
import Derived.Test.YtmpigdokghngiaaGreatQ05
import Derived.Test.YtmpigdokghngiaaGreatQ12
import Derived.Deep.RegionHeld
import Derived.Deep.RegionLaw
import Derived.Test.YtmpigdokghngiaaGreatQ07
import Derived.Test.YtmpigdokghngiaaGreatQ06

set_option maxHeartbeats 12800000
set_option maxRecDepth 100000

namespace Go.Proofs.YtmpigdokghngiaaGreat
section
open Go.RowKit

theorem wrap_i64F (n:Int):IntKind.i64.wrap n=wrap64 n:=by
 unfold IntKind.wrap wrap64
 simp only [IntKind.signed,IntKind.bits]
 simp
 all_goals (try split <;> omega)

theorem heldB_farF {X W:World} {bs:List (Nat × List Value)} {B:Nat} (h:heldB X bs) (hfar:∀ k,¬ k=B→W.heap[k]?=X.heap[k]?) (hn:∀ p ∈ bs,¬ p.1=B):heldB W bs:=fun p hp j u hu =>
 (World.cell?_of_block (hfar p.1 (hn p hp))).trans (h p hp j u hu)

theorem ownR_other {w:World} {base:Nat} {v:Value} {t:List Row} (h:OwnR w base v t) {B:Nat} {cs:Array Value} {T:TypeId} (hT:T ≠ 73) (hB:w.heap[B]?=some (.cells cs T (0,0))) {W:World} (hfar:∀ k,¬ k=B→W.heap[k]?=w.heap[k]?):OwnR W base v t:=by
 refine ⟨h.1,?_⟩
 rcases h.2 with h' | ⟨g,cap,cur,h1,h2,h3,h4⟩
 ·exact .inl h'
 ·have hne:¬ g=B:=by
   rintro rfl
   rw [hB] at h3
   simp only [Option.some.injEq,Obj.cells.injEq] at h3
   exact hT h3.2.1
  exact .inr ⟨g,cap,cur,h1,h2,(hfar g hne).trans h3,h4⟩

theorem take_atk {k F:Nat} {fu:Value} (h1:1≤k) (h4:k≤4) (HI:Hid (∀ w,Calls Tryz.prog 102 #[.int .i64 (k:Int)] w fun e w' => e=.returned (.bool true)∧w=w'))
  (hix:∀ w,(Instr.index 138 kindsV (.int .u8 (k:Int))).run Tryz.prog w=.ok fu w) (hfd:∀ w,(Instr.field 137 fu 2).run Tryz.prog w=.ok (.func (.func F) #[] #[]) w) (hcf:∀ (xs:Array Value) (X:World),(callFunc F xs).run Tryz.prog X=.ok (.enter F xs) X)
  (x:UInt8) (hx:x.toNat=k) (b:List UInt8) (hb:(x :: b).length≤4294967296) {n f:Nat} (HG:Hid (vget (x :: b) 1=(n,f,0))) {og:Option Frm} {g:Frm} {ok:Bool} (hg:og.getD Frm.zero=g) (hok:og.isSome=ok) (HQ:Hid (tkAll (x :: b)=(og,(k:Int),IntKind.i64.wrap (n:Int))))
  (HT:Hid (∀ w,Calls Tryz.prog F #[.string ⟨((x :: b).drop f).toArray⟩] w fun e w' => ∃ v,e=.returned (.tuple #[.agg #[.int .i64 g.k,.int .i64 g.s,.bool g.on,.string ⟨g.c.toArray⟩,.int .i64 g.v.sh,.int .i64 g.v.pr,.int .i64 g.v.si,.string ⟨g.v.st.toArray⟩,.int .u64 g.sum,v],.bool ok])∧OwnR w' w.heap.size v g.t∧Below w.heap.size w w')) (w:World) :
  Calls Tryz.prog 78 #[.string ⟨(x :: b).toArray⟩] w (TookA (tkAll (x :: b)) w):=by
 have HGET:=hZq fun w => get_eq (x :: b) hb 1 w HG
 obtain⟨b2,hb2e⟩ : ∃ b2,(x :: b).drop f=b2:=⟨_,rfl⟩
 have hf:=(vget_facts HG.out).2.1
 have hsl:=fun w => run_slice_bytes_from (P:=Tryz.prog) w 9 (x :: b) f (f:Int) rfl Tryz.underlying9 hf
 rw [hb2e] at hsl HT
 have hx0:0 < (⟨(x :: b).toArray⟩ : ByteArray).size:=by rw [size_bytes]; simp
 have hxk:((⟨(x :: b).toArray⟩ : ByteArray)[0]'hx0).toNat=k:=hx
 have hkw:IntKind.i64.wrap (k:Int)=k:=IntWalk.i64_in _ (by omega)
 have hkw2:wrap64 (k:Int)=k:=by rw [← wrap_i64F]; exact hkw
 have HKD:=hZq kindsF_any
 have HQ2:Hid (tkAll (x :: b)=(og,(k:Int),wrap64 (n:Int))):=hZq (by rw [HQ.out,wrap_i64F])
 clear HQ
 have HQ:=HQ2
 clear HQ2 hx hb2e
 obtain⟨R,HB⟩:=ent1 w (.cells #[.int .i64 0,.int .i64 0,.bool false,.string ⟨#[]⟩,.int .i64 0,.int .i64 0,.int .i64 0,.string ⟨#[]⟩,.int .u64 0,.slice none 0 0] 56)
 go_enter Tryz.func78,Tryz.ntmps78
 go_wp2_with fail
 refine (HI.out _).mono ?_
 rintro e wp ⟨rfl,rfl⟩
 go_wp2_with fail
 refine (HGET.out _).mono ?_
 rintro e wp ⟨rfl,rfl⟩
 generalize w.alloc (.cells #[.int .i64 0,.int .i64 0,.bool false,.string ⟨#[]⟩,.int .i64 0,.int .i64 0,.int .i64 0,.string ⟨#[]⟩,.int .u64 0,.slice none 0 0] 56)=w2 at R HB ⊢
 go_wp2_with fail
 have hRl:=(Array.getElem?_eq_some_iff.1 R.out).1
 obtain⟨BS,hBS⟩ : ∃ BS:List (Nat × List Value),BS=[(w.heap.size,[.int .i64 0,.int .i64 0,.bool false,.string ⟨#[]⟩,.int .i64 0,.int .i64 0,.int .i64 0,.string ⟨#[]⟩,.int .u64 0,.slice none 0 0])]:=⟨_,rfl⟩
 have D0:=hZq (show heldB w2 BS from by rw [hBS]; exact heldB_cons (cellsAt_block R.out) (heldB_nil _))
 have hL:=heldB_at (b:=w.heap.size) (vs:=[.int .i64 0,.int .i64 0,.bool false,.string ⟨#[]⟩,.int .i64 0,.int .i64 0,.int .i64 0,.string ⟨#[]⟩,.int .u64 0,.slice none 0 0]) (bs:=BS) (by rw [hBS]; simp)
 have hq0:=hL 0 _ rfl
 have hq1:=hL 1 _ rfl
 have hq2:=hL 2 _ rfl
 have hq3:=hL 3 _ rfl
 have hq4:=hL 4 _ rfl
 have hq5:=hL 5 _ rfl
 have hq6:=hL 6 _ rfl
 have hq7:=hL 7 _ rfl
 have hq8:=hL 8 _ rfl
 have hq9:=hL 9 _ rfl
 clear hL
 have hBN:∀ p ∈ BS,p.1=w.heap.size:=by rw [hBS]; intro p hp; simp only [List.mem_cons,List.not_mem_nil,or_false] at hp; subst hp; rfl
 clear hBS
 have K0:Hid (Below w2.heap.size w2 w2.drew):=hZq (Below.refl _ _).drew
 refine wp_region_held_drew (S:=(fun X => heldB X BS)) (by kernel_rfl) ?_ (fun hHeld => ?_)
 ·exact heldB_up K0.out D0.out
 generalize w2.drew=z0 at K0 hHeld ⊢
 refine tkZ 1 ?_
 refine tkZ 2 ?_
 refine tkZ 5 ?_
 refine tkZ 6 ?_
 refine tkZ 7 ?_
 refine wpAnyH_ready (rs:=[0,12]) (by as_aux_lemma => kernel_rfl) (by simp) ?_
 refine AllReadyH.cons rfl (fun Kx hK => ?_) (AllReadyH.cons rfl (fun Kx hK => ?_) (AllReadyH.nil))
 ·go_simp
  refine (HKD.out _).mono ?_
  rintro e z1 ⟨rfl,bz1⟩
  have K1:=hZq (below2Z K0.out bz1)
  have D1:=hZq (heldB_up K1.out D0.out)
  clear bz1
  go_wp2_with fail
  refine hK.out _ _ ?_ (fun hHeld2 => ?_)
  ·exact D1.out
  clear hK Kx hHeld
  have hHeld:=hHeld2
  clear hHeld2
  try simp only [Act.put,List.setIfInBounds_toArray,List.set_cons_zero,List.set_cons_succ]
  refine tkZ 3 ?_
  refine tkZ 4 ?_
  refine wpAnyH_ready (rs:=[8,12]) (by as_aux_lemma => kernel_rfl) (by simp) ?_
  refine AllReadyH.cons rfl (fun Kx hK => ?_) (AllReadyH.cons rfl (fun Kx hK => ?_) (AllReadyH.nil))
  ·go_simp
   refine (HT.out _).mono ?_
   rintro e z2 ⟨v,rfl,hov,bz2⟩
   have K2:=hZq (below2Z K1.out bz2)
   have D2:=hZq (heldB_up K2.out D0.out)
   obtain⟨va,vc,rfl,-⟩:=Tab.open' (OwnR.tab hov)
   have HOV:=hZq (OwnR.mono hov (Nat.le_trans HB.out.size (K1.out).size))
   clear hov
   clear bz2
   go_wp2_with fail
   refine hK.out _ _ ?_ (fun hHeld2 => ?_)
   ·exact D2.out
   clear hK Kx hHeld
   have hHeld:=hHeld2
   clear hHeld2
   try simp only [Act.put,List.setIfInBounds_toArray,List.set_cons_zero,List.set_cons_succ]
   refine tkZ 9 ?_
   refine tkZ 10 ?_
   refine tkZ 11 ?_
   refine wpAnyH_ready (rs:=[12]) (by as_aux_lemma => kernel_rfl) (by simp) ?_
   refine AllReadyH.cons rfl (fun Kx hK => ?_) AllReadyH.nil
   go_simp
   refine hK.out _ _ ?_ (fun hHeld2 => ?_)
   ·exact heldB_up (below2Z K2.out (bl_newZ _ _)) D0.out
   clear hK Kx hHeld
   have hHeld:=hHeld2
   clear hHeld2
   try simp only [Act.put,List.setIfInBounds_toArray,List.set_cons_zero,List.set_cons_succ]
   have bz3:=bl_newZ z2 (.cells #[.int .i64 0,.int .i64 0,.bool false,.string ⟨#[]⟩,.int .i64 0,.int .i64 0,.int .i64 0,.string ⟨#[]⟩,.int .u64 0,.slice none 0 0] 56)
   have K3:=hZq (below2Z K2.out bz3)
   have D3:=hZq (heldB_up K3.out D0.out)
   have nz3:=hZq ((MapKept.heap_alloc z2 (.cells #[.int .i64 0,.int .i64 0,.bool false,.string ⟨#[]⟩,.int .i64 0,.int .i64 0,.int .i64 0,.string ⟨#[]⟩,.int .u64 0,.slice none 0 0] 56)).1)
   have hB3:w2.heap.size≤z2.heap.size:=(K2.out).size
   replace HOV:=hZq (OwnR.later HOV.out bz3)
   clear bz3
   generalize z2.alloc (.cells #[.int .i64 0,.int .i64 0,.bool false,.string ⟨#[]⟩,.int .i64 0,.int .i64 0,.int .i64 0,.string ⟨#[]⟩,.int .u64 0,.slice none 0 0] 56)=z3 at K3 D3 nz3 HOV hHeld ⊢
   generalize z2.heap.size=B3 at nz3 hB3  ⊢
   obtain⟨⟨c0,c1,c2,c3,c4,c5,c6,c7,c8,c9⟩,⟨g0,g1,g2,g3,g4,g5,g6,g7,g8,g9⟩⟩:=blk10 nz3.out
   refine wpAnyH_ready (rs:=[13]) (by as_aux_lemma => kernel_rfl) (by simp) ?_
   refine AllReadyH.cons rfl (fun Kx hK => ?_) AllReadyH.nil
   go_simp
   clear c0 c1 c2 c3 c4 c5 c6 c7 c8 c9 g0 g1 g2 g3 g4 g5 g6 g7 g8 g9
   have hBR:¬ w.heap.size=B3:=by omega
   have hBw:w.heap.size≤B3:=by omega
   have FZ:=hZq (stN10_heap nz3.out (.int .i64 g.k) (.int .i64 g.s) (.bool g.on) (.string ⟨g.c.toArray⟩) (.int .i64 g.v.sh) (.int .i64 g.v.pr) (.int .i64 g.v.si) (.string ⟨g.v.st.toArray⟩) (.int .u64 g.sum) (.slice va g.t.length vc))
   have RZ:=hZq ((stN10_far z3 B3 (.int .i64 g.k) (.int .i64 g.s) (.bool g.on) (.string ⟨g.c.toArray⟩) (.int .i64 g.v.sh) (.int .i64 g.v.pr) (.int .i64 g.v.si) (.string ⟨g.v.st.toArray⟩) (.int .u64 g.sum) (.slice va g.t.length vc) hBR).trans (upQ R.out (K3.out)))
   have HZ:=hZq (stN10_below (below2Z HB.out (K3.out)) hBw (.int .i64 g.k) (.int .i64 g.s) (.bool g.on) (.string ⟨g.c.toArray⟩) (.int .i64 g.v.sh) (.int .i64 g.v.pr) (.int .i64 g.v.si) (.string ⟨g.v.st.toArray⟩) (.int .u64 g.sum) (.slice va g.t.length vc))
   have DZ:=hZq (heldB_farF (heldB_up (K3.out) D0.out) (fun k hk => stN10_far z3 B3 (.int .i64 g.k) (.int .i64 g.s) (.bool g.on) (.string ⟨g.c.toArray⟩) (.int .i64 g.v.sh) (.int .i64 g.v.pr) (.int .i64 g.v.si) (.string ⟨g.v.st.toArray⟩) (.int .u64 g.sum) (.slice va g.t.length vc) hk) (fun p hp => by rw [hBN p hp]; exact hBR))
   have OZ:=hZq (ownR_other HOV.out (by decide) nz3.out (fun k hk => stN10_far z3 B3 (.int .i64 g.k) (.int .i64 g.s) (.bool g.on) (.string ⟨g.c.toArray⟩) (.int .i64 g.v.sh) (.int .i64 g.v.pr) (.int .i64 g.v.si) (.string ⟨g.v.st.toArray⟩) (.int .u64 g.sum) (.slice va g.t.length vc) hk))
   refine hK.out _ _ ?_ (fun hHeld2 => ?_)
   ·exact DZ.out
   clear hK Kx hHeld
   have hHeld:=hHeld2
   clear hHeld2
   obtain⟨zf,hzf⟩ : ∃ X,X=stN10 z3 B3 (.int .i64 g.k) (.int .i64 g.s) (.bool g.on) (.string ⟨g.c.toArray⟩) (.int .i64 g.v.sh) (.int .i64 g.v.pr) (.int .i64 g.v.si) (.string ⟨g.v.st.toArray⟩) (.int .u64 g.sum) (.slice va g.t.length vc):=⟨_,rfl⟩
   rw [← hzf] at FZ RZ HZ DZ OZ
   unfold stN10 at hzf
   simp only [← hzf] at hHeld ⊢
   clear hzf
   refine tkZ 14 ?_
   refine wpAnyH_done (by kernel_rfl) ?_ _
   have FZo:=blk10 FZ.out
   go_upto_region 8 with fail
   clear FZo
   have FY:=hZq (heap_setCell_same _ B3 1 _ _ (.int .i64 (wrap64 (n:Int))) (heap_setCell_same zf B3 0 _ _ (.int .i64 (k:Int)) FZ.out))
   have hfar2:∀ i9,¬ i9=B3→((zf.setCell ⟨B3,0,none⟩ (.int .i64 (k:Int))).setCell ⟨B3,1,none⟩ (.int .i64 (wrap64 (n:Int)))).heap[i9]?=zf.heap[i9]?:=fun i9 hk => (Below.heap_setCell _ _ _ i9 hk).trans (Below.heap_setCell _ _ _ i9 hk)
   have RY:=hZq ((hfar2 _ hBR).trans RZ.out)
   have OY:=hZq (ownR_other OZ.out (by decide) FZ.out hfar2)
   have HY:Hid (Below w.heap.size w ((zf.setCell ⟨B3,0,none⟩ (.int .i64 (k:Int))).setCell ⟨B3,1,none⟩ (.int .i64 (wrap64 (n:Int))))):=hZq ((HZ.out.setCell hBw _).setCell hBw _)
   clear FZ RZ OZ HZ DZ hfar2
   generalize (zf.setCell ⟨B3,0,none⟩ (.int .i64 (k:Int))).setCell ⟨B3,1,none⟩ (.int .i64 (wrap64 (n:Int)))=zy at FY RY OY HY ⊢
   have FY2:Hid (zy.heap[B3]?=some (.cells #[.int .i64 (k:Int),.int .i64 (wrap64 (n:Int)),.bool g.on,.string ⟨g.c.toArray⟩,.int .i64 g.v.sh,.int .i64 g.v.pr,.int .i64 g.v.si,.string ⟨g.v.st.toArray⟩,.int .u64 g.sum,.slice va g.t.length vc] 56 (0,0))):=FY
   clear FY
   have FY:=FY2
   clear FY2
   have FYo:=blk10 FY.out
   have RYo:=blk10 RY.out
   go_wp2_with fail
   clear FYo RYo
   have RX:=hZq (stN10_heap RY.out (.int .i64 (k:Int)) (.int .i64 (wrap64 (n:Int))) (.bool g.on) (.string ⟨g.c.toArray⟩) (.int .i64 g.v.sh) (.int .i64 g.v.pr) (.int .i64 g.v.si) (.string ⟨g.v.st.toArray⟩) (.int .u64 g.sum) (.slice va g.t.length vc))
   have OX:=hZq (ownR_other OY.out (by decide) RY.out (fun _ hk => stN10_far zy w.heap.size (.int .i64 (k:Int)) (.int .i64 (wrap64 (n:Int))) (.bool g.on) (.string ⟨g.c.toArray⟩) (.int .i64 g.v.sh) (.int .i64 g.v.pr) (.int .i64 g.v.si) (.string ⟨g.v.st.toArray⟩) (.int .u64 g.sum) (.slice va g.t.length vc) hk))
   have HX:=hZq (stN10_below HY.out (Nat.le_refl _) (.int .i64 (k:Int)) (.int .i64 (wrap64 (n:Int))) (.bool g.on) (.string ⟨g.c.toArray⟩) (.int .i64 g.v.sh) (.int .i64 g.v.pr) (.int .i64 g.v.si) (.string ⟨g.v.st.toArray⟩) (.int .u64 g.sum) (.slice va g.t.length vc))
   obtain⟨zx,hzx⟩ : ∃ X,X=stN10 zy w.heap.size (.int .i64 (k:Int)) (.int .i64 (wrap64 (n:Int))) (.bool g.on) (.string ⟨g.c.toArray⟩) (.int .i64 g.v.sh) (.int .i64 g.v.pr) (.int .i64 g.v.si) (.string ⟨g.v.st.toArray⟩) (.int .u64 g.sum) (.slice va g.t.length vc):=⟨_,rfl⟩
   rw [← hzx] at RX OX HX
   unfold stN10 at hzx
   simp only [← hzx]
   clear hzx
   obtain⟨⟨y0,y1,y2,y3,y4,y5,y6,y7,y8,y9⟩,-⟩:=blk10 RX.out
   refine bodyPost_ret (v:=.tuple #[.agg #[.int .i64 (k:Int),.int .i64 (wrap64 (n:Int)),.bool g.on,.string ⟨g.c.toArray⟩,.int .i64 g.v.sh,.int .i64 g.v.pr,.int .i64 g.v.si,.string ⟨g.v.st.toArray⟩,.int .u64 g.sum,.slice va g.t.length vc],.bool ok]) (by simp [results,Tryz.results78,go_sem,y0,y1,y2,y3,y4,y5,y6,y7,y8,y9]) rfl ⟨.slice va g.t.length vc,by rw [HQ.out]; simp only [hg,hok,frAgg],by rw [HQ.out]; simp only [hg]; exact OX.out,HX.out⟩
  ·go_simp
   refine hK.out _ _ ?_ (fun hHeld2 => ?_)
   ·exact heldB_up (below2Z K1.out (bl_newZ _ _)) D0.out
   clear hK Kx hHeld
   have hHeld:=hHeld2
   clear hHeld2
   try simp only [Act.put,List.setIfInBounds_toArray,List.set_cons_zero,List.set_cons_succ]
   have bz5:=bl_newZ z1 (.cells #[.int .i64 0,.int .i64 0,.bool false,.string ⟨#[]⟩,.int .i64 0,.int .i64 0,.int .i64 0,.string ⟨#[]⟩,.int .u64 0,.slice none 0 0] 56)
   have K5:=hZq (below2Z K1.out bz5)
   have D5:=hZq (heldB_up K5.out D0.out)
   have nz5:=hZq ((MapKept.heap_alloc z1 (.cells #[.int .i64 0,.int .i64 0,.bool false,.string ⟨#[]⟩,.int .i64 0,.int .i64 0,.int .i64 0,.string ⟨#[]⟩,.int .u64 0,.slice none 0 0] 56)).1)
   have hB5:w2.heap.size≤z1.heap.size:=(K1.out).size
   clear bz5
   generalize z1.alloc (.cells #[.int .i64 0,.int .i64 0,.bool false,.string ⟨#[]⟩,.int .i64 0,.int .i64 0,.int .i64 0,.string ⟨#[]⟩,.int .u64 0,.slice none 0 0] 56)=z5 at K5 D5 nz5 hHeld ⊢
   generalize z1.heap.size=B5 at nz5 hB5  ⊢
   refine wpAnyH_ready (rs:=[8]) (by as_aux_lemma => kernel_rfl) (by simp) ?_
   refine AllReadyH.cons rfl (fun Kx hK => ?_) AllReadyH.nil
   go_simp
   refine (HT.out _).mono ?_
   rintro e z6 ⟨v,rfl,hov,bz6⟩
   have K6:=hZq (below2Z K5.out bz6)
   have D6:=hZq (heldB_up K6.out D0.out)
   replace nz5:=hZq (((bz6).block _ (Array.getElem?_eq_some_iff.1 (nz5.out)).1).trans (nz5.out))
   obtain⟨va,vc,rfl,-⟩:=Tab.open' (OwnR.tab hov)
   have HOV:=hZq (OwnR.mono hov (Nat.le_trans HB.out.size (K5.out).size))
   clear hov
   clear bz6
   go_wp2_with fail
   refine hK.out _ _ ?_ (fun hHeld2 => ?_)
   ·exact D6.out
   clear hK Kx hHeld
   have hHeld:=hHeld2
   clear hHeld2
   try simp only [Act.put,List.setIfInBounds_toArray,List.set_cons_zero,List.set_cons_succ]
   refine tkZ 9 ?_
   refine tkZ 10 ?_
   refine tkZ 11 ?_
   obtain⟨⟨c0,c1,c2,c3,c4,c5,c6,c7,c8,c9⟩,⟨g0,g1,g2,g3,g4,g5,g6,g7,g8,g9⟩⟩:=blk10 nz5.out
   refine wpAnyH_ready (rs:=[13]) (by as_aux_lemma => kernel_rfl) (by simp) ?_
   refine AllReadyH.cons rfl (fun Kx hK => ?_) AllReadyH.nil
   go_simp
   clear c0 c1 c2 c3 c4 c5 c6 c7 c8 c9 g0 g1 g2 g3 g4 g5 g6 g7 g8 g9
   have hBR:¬ w.heap.size=B5:=by omega
   have hBw:w.heap.size≤B5:=by omega
   have FZ:=hZq (stN10_heap nz5.out (.int .i64 g.k) (.int .i64 g.s) (.bool g.on) (.string ⟨g.c.toArray⟩) (.int .i64 g.v.sh) (.int .i64 g.v.pr) (.int .i64 g.v.si) (.string ⟨g.v.st.toArray⟩) (.int .u64 g.sum) (.slice va g.t.length vc))
   have RZ:=hZq ((stN10_far z6 B5 (.int .i64 g.k) (.int .i64 g.s) (.bool g.on) (.string ⟨g.c.toArray⟩) (.int .i64 g.v.sh) (.int .i64 g.v.pr) (.int .i64 g.v.si) (.string ⟨g.v.st.toArray⟩) (.int .u64 g.sum) (.slice va g.t.length vc) hBR).trans (upQ R.out (K6.out)))
   have HZ:=hZq (stN10_below (below2Z HB.out (K6.out)) hBw (.int .i64 g.k) (.int .i64 g.s) (.bool g.on) (.string ⟨g.c.toArray⟩) (.int .i64 g.v.sh) (.int .i64 g.v.pr) (.int .i64 g.v.si) (.string ⟨g.v.st.toArray⟩) (.int .u64 g.sum) (.slice va g.t.length vc))
   have DZ:=hZq (heldB_farF (heldB_up (K6.out) D0.out) (fun k hk => stN10_far z6 B5 (.int .i64 g.k) (.int .i64 g.s) (.bool g.on) (.string ⟨g.c.toArray⟩) (.int .i64 g.v.sh) (.int .i64 g.v.pr) (.int .i64 g.v.si) (.string ⟨g.v.st.toArray⟩) (.int .u64 g.sum) (.slice va g.t.length vc) hk) (fun p hp => by rw [hBN p hp]; exact hBR))
   have OZ:=hZq (ownR_other HOV.out (by decide) nz5.out (fun k hk => stN10_far z6 B5 (.int .i64 g.k) (.int .i64 g.s) (.bool g.on) (.string ⟨g.c.toArray⟩) (.int .i64 g.v.sh) (.int .i64 g.v.pr) (.int .i64 g.v.si) (.string ⟨g.v.st.toArray⟩) (.int .u64 g.sum) (.slice va g.t.length vc) hk))
   refine hK.out _ _ ?_ (fun hHeld2 => ?_)
   ·exact DZ.out
   clear hK Kx hHeld
   have hHeld:=hHeld2
   clear hHeld2
   obtain⟨zf,hzf⟩ : ∃ X,X=stN10 z6 B5 (.int .i64 g.k) (.int .i64 g.s) (.bool g.on) (.string ⟨g.c.toArray⟩) (.int .i64 g.v.sh) (.int .i64 g.v.pr) (.int .i64 g.v.si) (.string ⟨g.v.st.toArray⟩) (.int .u64 g.sum) (.slice va g.t.length vc):=⟨_,rfl⟩
   rw [← hzf] at FZ RZ HZ DZ OZ
   unfold stN10 at hzf
   simp only [← hzf] at hHeld ⊢
   clear hzf
   refine tkZ 14 ?_
   refine wpAnyH_done (by kernel_rfl) ?_ _
   have FZo:=blk10 FZ.out
   go_upto_region 8 with fail
   clear FZo
   have FY:=hZq (heap_setCell_same _ B5 1 _ _ (.int .i64 (wrap64 (n:Int))) (heap_setCell_same zf B5 0 _ _ (.int .i64 (k:Int)) FZ.out))
   have hfar2:∀ i9,¬ i9=B5→((zf.setCell ⟨B5,0,none⟩ (.int .i64 (k:Int))).setCell ⟨B5,1,none⟩ (.int .i64 (wrap64 (n:Int)))).heap[i9]?=zf.heap[i9]?:=fun i9 hk => (Below.heap_setCell _ _ _ i9 hk).trans (Below.heap_setCell _ _ _ i9 hk)
   have RY:=hZq ((hfar2 _ hBR).trans RZ.out)
   have OY:=hZq (ownR_other OZ.out (by decide) FZ.out hfar2)
   have HY:Hid (Below w.heap.size w ((zf.setCell ⟨B5,0,none⟩ (.int .i64 (k:Int))).setCell ⟨B5,1,none⟩ (.int .i64 (wrap64 (n:Int))))):=hZq ((HZ.out.setCell hBw _).setCell hBw _)
   clear FZ RZ OZ HZ DZ hfar2
   generalize (zf.setCell ⟨B5,0,none⟩ (.int .i64 (k:Int))).setCell ⟨B5,1,none⟩ (.int .i64 (wrap64 (n:Int)))=zy at FY RY OY HY ⊢
   have FY2:Hid (zy.heap[B5]?=some (.cells #[.int .i64 (k:Int),.int .i64 (wrap64 (n:Int)),.bool g.on,.string ⟨g.c.toArray⟩,.int .i64 g.v.sh,.int .i64 g.v.pr,.int .i64 g.v.si,.string ⟨g.v.st.toArray⟩,.int .u64 g.sum,.slice va g.t.length vc] 56 (0,0))):=FY
   clear FY
   have FY:=FY2
   clear FY2
   have FYo:=blk10 FY.out
   have RYo:=blk10 RY.out
   go_wp2_with fail
   clear FYo RYo
   have RX:=hZq (stN10_heap RY.out (.int .i64 (k:Int)) (.int .i64 (wrap64 (n:Int))) (.bool g.on) (.string ⟨g.c.toArray⟩) (.int .i64 g.v.sh) (.int .i64 g.v.pr) (.int .i64 g.v.si) (.string ⟨g.v.st.toArray⟩) (.int .u64 g.sum) (.slice va g.t.length vc))
   have OX:=hZq (ownR_other OY.out (by decide) RY.out (fun _ hk => stN10_far zy w.heap.size (.int .i64 (k:Int)) (.int .i64 (wrap64 (n:Int))) (.bool g.on) (.string ⟨g.c.toArray⟩) (.int .i64 g.v.sh) (.int .i64 g.v.pr) (.int .i64 g.v.si) (.string ⟨g.v.st.toArray⟩) (.int .u64 g.sum) (.slice va g.t.length vc) hk))
   have HX:=hZq (stN10_below HY.out (Nat.le_refl _) (.int .i64 (k:Int)) (.int .i64 (wrap64 (n:Int))) (.bool g.on) (.string ⟨g.c.toArray⟩) (.int .i64 g.v.sh) (.int .i64 g.v.pr) (.int .i64 g.v.si) (.string ⟨g.v.st.toArray⟩) (.int .u64 g.sum) (.slice va g.t.length vc))
   obtain⟨zx,hzx⟩ : ∃ X,X=stN10 zy w.heap.size (.int .i64 (k:Int)) (.int .i64 (wrap64 (n:Int))) (.bool g.on) (.string ⟨g.c.toArray⟩) (.int .i64 g.v.sh) (.int .i64 g.v.pr) (.int .i64 g.v.si) (.string ⟨g.v.st.toArray⟩) (.int .u64 g.sum) (.slice va g.t.length vc):=⟨_,rfl⟩
   rw [← hzx] at RX OX HX
   unfold stN10 at hzx
   simp only [← hzx]
   clear hzx
   obtain⟨⟨y0,y1,y2,y3,y4,y5,y6,y7,y8,y9⟩,-⟩:=blk10 RX.out
   refine bodyPost_ret (v:=.tuple #[.agg #[.int .i64 (k:Int),.int .i64 (wrap64 (n:Int)),.bool g.on,.string ⟨g.c.toArray⟩,.int .i64 g.v.sh,.int .i64 g.v.pr,.int .i64 g.v.si,.string ⟨g.v.st.toArray⟩,.int .u64 g.sum,.slice va g.t.length vc],.bool ok]) (by simp [results,Tryz.results78,go_sem,y0,y1,y2,y3,y4,y5,y6,y7,y8,y9]) rfl ⟨.slice va g.t.length vc,by rw [HQ.out]; simp only [hg,hok,frAgg],by rw [HQ.out]; simp only [hg]; exact OX.out,HX.out⟩
 ·go_simp
  refine hK.out _ _ ?_ (fun hHeld2 => ?_)
  ·exact heldB_up (below2Z K0.out (bl_newZ _ _)) D0.out
  clear hK Kx hHeld
  have hHeld:=hHeld2
  clear hHeld2
  try simp only [Act.put,List.setIfInBounds_toArray,List.set_cons_zero,List.set_cons_succ]
  have bz8:=bl_newZ z0 (.cells #[.int .i64 0,.int .i64 0,.bool false,.string ⟨#[]⟩,.int .i64 0,.int .i64 0,.int .i64 0,.string ⟨#[]⟩,.int .u64 0,.slice none 0 0] 56)
  have K8:=hZq (below2Z K0.out bz8)
  have D8:=hZq (heldB_up K8.out D0.out)
  have nz8:=hZq ((MapKept.heap_alloc z0 (.cells #[.int .i64 0,.int .i64 0,.bool false,.string ⟨#[]⟩,.int .i64 0,.int .i64 0,.int .i64 0,.string ⟨#[]⟩,.int .u64 0,.slice none 0 0] 56)).1)
  have hB8:w2.heap.size≤z0.heap.size:=(K0.out).size
  clear bz8
  generalize z0.alloc (.cells #[.int .i64 0,.int .i64 0,.bool false,.string ⟨#[]⟩,.int .i64 0,.int .i64 0,.int .i64 0,.string ⟨#[]⟩,.int .u64 0,.slice none 0 0] 56)=z8 at K8 D8 nz8 hHeld ⊢
  generalize z0.heap.size=B8 at nz8 hB8  ⊢
  refine wpAnyH_ready (rs:=[0]) (by as_aux_lemma => kernel_rfl) (by simp) ?_
  refine AllReadyH.cons rfl (fun Kx hK => ?_) AllReadyH.nil
  go_simp
  refine (HKD.out _).mono ?_
  rintro e z9 ⟨rfl,bz9⟩
  have K9:=hZq (below2Z K8.out bz9)
  have D9:=hZq (heldB_up K9.out D0.out)
  replace nz8:=hZq (((bz9).block _ (Array.getElem?_eq_some_iff.1 (nz8.out)).1).trans (nz8.out))
  clear bz9
  go_wp2_with fail
  refine hK.out _ _ ?_ (fun hHeld2 => ?_)
  ·exact D9.out
  clear hK Kx hHeld
  have hHeld:=hHeld2
  clear hHeld2
  try simp only [Act.put,List.setIfInBounds_toArray,List.set_cons_zero,List.set_cons_succ]
  refine tkZ 3 ?_
  refine tkZ 4 ?_
  refine wpAnyH_ready (rs:=[8]) (by as_aux_lemma => kernel_rfl) (by simp) ?_
  refine AllReadyH.cons rfl (fun Kx hK => ?_) AllReadyH.nil
  go_simp
  refine (HT.out _).mono ?_
  rintro e z10 ⟨v,rfl,hov,bz10⟩
  have K10:=hZq (below2Z K9.out bz10)
  have D10:=hZq (heldB_up K10.out D0.out)
  replace nz8:=hZq (((bz10).block _ (Array.getElem?_eq_some_iff.1 (nz8.out)).1).trans (nz8.out))
  obtain⟨va,vc,rfl,-⟩:=Tab.open' (OwnR.tab hov)
  have HOV:=hZq (OwnR.mono hov (Nat.le_trans HB.out.size (K9.out).size))
  clear hov
  clear bz10
  go_wp2_with fail
  refine hK.out _ _ ?_ (fun hHeld2 => ?_)
  ·exact D10.out
  clear hK Kx hHeld
  have hHeld:=hHeld2
  clear hHeld2
  try simp only [Act.put,List.setIfInBounds_toArray,List.set_cons_zero,List.set_cons_succ]
  refine tkZ 9 ?_
  refine tkZ 10 ?_
  refine tkZ 11 ?_
  obtain⟨⟨c0,c1,c2,c3,c4,c5,c6,c7,c8,c9⟩,⟨g0,g1,g2,g3,g4,g5,g6,g7,g8,g9⟩⟩:=blk10 nz8.out
  refine wpAnyH_ready (rs:=[13]) (by as_aux_lemma => kernel_rfl) (by simp) ?_
  refine AllReadyH.cons rfl (fun Kx hK => ?_) AllReadyH.nil
  go_simp
  clear c0 c1 c2 c3 c4 c5 c6 c7 c8 c9 g0 g1 g2 g3 g4 g5 g6 g7 g8 g9
  have hBR:¬ w.heap.size=B8:=by omega
  have hBw:w.heap.size≤B8:=by omega
  have FZ:=hZq (stN10_heap nz8.out (.int .i64 g.k) (.int .i64 g.s) (.bool g.on) (.string ⟨g.c.toArray⟩) (.int .i64 g.v.sh) (.int .i64 g.v.pr) (.int .i64 g.v.si) (.string ⟨g.v.st.toArray⟩) (.int .u64 g.sum) (.slice va g.t.length vc))
  have RZ:=hZq ((stN10_far z10 B8 (.int .i64 g.k) (.int .i64 g.s) (.bool g.on) (.string ⟨g.c.toArray⟩) (.int .i64 g.v.sh) (.int .i64 g.v.pr) (.int .i64 g.v.si) (.string ⟨g.v.st.toArray⟩) (.int .u64 g.sum) (.slice va g.t.length vc) hBR).trans (upQ R.out (K10.out)))
  have HZ:=hZq (stN10_below (below2Z HB.out (K10.out)) hBw (.int .i64 g.k) (.int .i64 g.s) (.bool g.on) (.string ⟨g.c.toArray⟩) (.int .i64 g.v.sh) (.int .i64 g.v.pr) (.int .i64 g.v.si) (.string ⟨g.v.st.toArray⟩) (.int .u64 g.sum) (.slice va g.t.length vc))
  have DZ:=hZq (heldB_farF (heldB_up (K10.out) D0.out) (fun k hk => stN10_far z10 B8 (.int .i64 g.k) (.int .i64 g.s) (.bool g.on) (.string ⟨g.c.toArray⟩) (.int .i64 g.v.sh) (.int .i64 g.v.pr) (.int .i64 g.v.si) (.string ⟨g.v.st.toArray⟩) (.int .u64 g.sum) (.slice va g.t.length vc) hk) (fun p hp => by rw [hBN p hp]; exact hBR))
  have OZ:=hZq (ownR_other HOV.out (by decide) nz8.out (fun k hk => stN10_far z10 B8 (.int .i64 g.k) (.int .i64 g.s) (.bool g.on) (.string ⟨g.c.toArray⟩) (.int .i64 g.v.sh) (.int .i64 g.v.pr) (.int .i64 g.v.si) (.string ⟨g.v.st.toArray⟩) (.int .u64 g.sum) (.slice va g.t.length vc) hk))
  refine hK.out _ _ ?_ (fun hHeld2 => ?_)
  ·exact DZ.out
  clear hK Kx hHeld
  have hHeld:=hHeld2
  clear hHeld2
  obtain⟨zf,hzf⟩ : ∃ X,X=stN10 z10 B8 (.int .i64 g.k) (.int .i64 g.s) (.bool g.on) (.string ⟨g.c.toArray⟩) (.int .i64 g.v.sh) (.int .i64 g.v.pr) (.int .i64 g.v.si) (.string ⟨g.v.st.toArray⟩) (.int .u64 g.sum) (.slice va g.t.length vc):=⟨_,rfl⟩
  rw [← hzf] at FZ RZ HZ DZ OZ
  unfold stN10 at hzf
  simp only [← hzf] at hHeld ⊢
  clear hzf
  refine tkZ 14 ?_
  refine wpAnyH_done (by kernel_rfl) ?_ _
  have FZo:=blk10 FZ.out
  go_upto_region 8 with fail
  clear FZo
  have FY:=hZq (heap_setCell_same _ B8 1 _ _ (.int .i64 (wrap64 (n:Int))) (heap_setCell_same zf B8 0 _ _ (.int .i64 (k:Int)) FZ.out))
  have hfar2:∀ i9,¬ i9=B8→((zf.setCell ⟨B8,0,none⟩ (.int .i64 (k:Int))).setCell ⟨B8,1,none⟩ (.int .i64 (wrap64 (n:Int)))).heap[i9]?=zf.heap[i9]?:=fun i9 hk => (Below.heap_setCell _ _ _ i9 hk).trans (Below.heap_setCell _ _ _ i9 hk)
  have RY:=hZq ((hfar2 _ hBR).trans RZ.out)
  have OY:=hZq (ownR_other OZ.out (by decide) FZ.out hfar2)
  have HY:Hid (Below w.heap.size w ((zf.setCell ⟨B8,0,none⟩ (.int .i64 (k:Int))).setCell ⟨B8,1,none⟩ (.int .i64 (wrap64 (n:Int))))):=hZq ((HZ.out.setCell hBw _).setCell hBw _)
  clear FZ RZ OZ HZ DZ hfar2
  generalize (zf.setCell ⟨B8,0,none⟩ (.int .i64 (k:Int))).setCell ⟨B8,1,none⟩ (.int .i64 (wrap64 (n:Int)))=zy at FY RY OY HY ⊢
  have FY2:Hid (zy.heap[B8]?=some (.cells #[.int .i64 (k:Int),.int .i64 (wrap64 (n:Int)),.bool g.on,.string ⟨g.c.toArray⟩,.int .i64 g.v.sh,.int .i64 g.v.pr,.int .i64 g.v.si,.string ⟨g.v.st.toArray⟩,.int .u64 g.sum,.slice va g.t.length vc] 56 (0,0))):=FY
  clear FY
  have FY:=FY2
  clear FY2
  have FYo:=blk10 FY.out
  have RYo:=blk10 RY.out
  go_wp2_with fail
  clear FYo RYo
  have RX:=hZq (stN10_heap RY.out (.int .i64 (k:Int)) (.int .i64 (wrap64 (n:Int))) (.bool g.on) (.string ⟨g.c.toArray⟩) (.int .i64 g.v.sh) (.int .i64 g.v.pr) (.int .i64 g.v.si) (.string ⟨g.v.st.toArray⟩) (.int .u64 g.sum) (.slice va g.t.length vc))
  have OX:=hZq (ownR_other OY.out (by decide) RY.out (fun _ hk => stN10_far zy w.heap.size (.int .i64 (k:Int)) (.int .i64 (wrap64 (n:Int))) (.bool g.on) (.string ⟨g.c.toArray⟩) (.int .i64 g.v.sh) (.int .i64 g.v.pr) (.int .i64 g.v.si) (.string ⟨g.v.st.toArray⟩) (.int .u64 g.sum) (.slice va g.t.length vc) hk))
  have HX:=hZq (stN10_below HY.out (Nat.le_refl _) (.int .i64 (k:Int)) (.int .i64 (wrap64 (n:Int))) (.bool g.on) (.string ⟨g.c.toArray⟩) (.int .i64 g.v.sh) (.int .i64 g.v.pr) (.int .i64 g.v.si) (.string ⟨g.v.st.toArray⟩) (.int .u64 g.sum) (.slice va g.t.length vc))
  obtain⟨zx,hzx⟩ : ∃ X,X=stN10 zy w.heap.size (.int .i64 (k:Int)) (.int .i64 (wrap64 (n:Int))) (.bool g.on) (.string ⟨g.c.toArray⟩) (.int .i64 g.v.sh) (.int .i64 g.v.pr) (.int .i64 g.v.si) (.string ⟨g.v.st.toArray⟩) (.int .u64 g.sum) (.slice va g.t.length vc):=⟨_,rfl⟩
  rw [← hzx] at RX OX HX
  unfold stN10 at hzx
  simp only [← hzx]
  clear hzx
  obtain⟨⟨y0,y1,y2,y3,y4,y5,y6,y7,y8,y9⟩,-⟩:=blk10 RX.out
  refine bodyPost_ret (v:=.tuple #[.agg #[.int .i64 (k:Int),.int .i64 (wrap64 (n:Int)),.bool g.on,.string ⟨g.c.toArray⟩,.int .i64 g.v.sh,.int .i64 g.v.pr,.int .i64 g.v.si,.string ⟨g.v.st.toArray⟩,.int .u64 g.sum,.slice va g.t.length vc],.bool ok]) (by simp [results,Tryz.results78,go_sem,y0,y1,y2,y3,y4,y5,y6,y7,y8,y9]) rfl ⟨.slice va g.t.length vc,by rw [HQ.out]; simp only [hg,hok,frAgg],by rw [HQ.out]; simp only [hg]; exact OX.out,HX.out⟩

theorem take_at1 (x:UInt8) (hx:x.toNat=1) (b:List UInt8) (hb:(x :: b).length≤4294967296) {n f:Nat} (HG:Hid (vget (x :: b) 1=(n,f,0))) (w:World) :
  Calls Tryz.prog 78 #[.string ⟨(x :: b).toArray⟩] w (TookA (tkAll (x :: b)) w):=by
 have hb2:((x :: b).drop f).length≤4294967296:=by rw [List.length_drop]; omega
 have hi:=fun w => isKind_any ((1:Nat):Int) w
 rw [show (decide ((1:Int)≤((1:Nat):Int)) && decide (((1:Nat):Int)≤4))=true by decide] at hi
 exact take_atk (k:=1) (F:=133) (fu:=.agg #[.func (.func 131) #[] #[],.func (.func 132) #[] #[],.func (.func 133) #[] #[]]) (by decide) (by decide) (hZq hi) (fun _ => by kernel_rfl) (fun _ => by kernel_rfl) (fun _ _ => by kernel_rfl) x hx b hb HG (og:=tkDelta ((x :: b).drop f)) rfl rfl
  (hZq (by unfold tkAll tkBody; simp only; rw [if_neg (by omega),HG.out,hx]; simp)) (hZq fun w => (takeDelta_any ((x :: b).drop f) hb2 w)) w

theorem take_at2 (x:UInt8) (hx:x.toNat=2) (b:List UInt8) (hb:(x :: b).length≤4294967296) {n f:Nat} (HG:Hid (vget (x :: b) 1=(n,f,0))) (w:World) :
  Calls Tryz.prog 78 #[.string ⟨(x :: b).toArray⟩] w (TookA (tkAll (x :: b)) w):=by
 have hb2:((x :: b).drop f).length≤4294967296:=by rw [List.length_drop]; omega
 have hi:=fun w => isKind_any ((2:Nat):Int) w
 rw [show (decide ((1:Int)≤((2:Nat):Int)) && decide (((2:Nat):Int)≤4))=true by decide] at hi
 exact take_atk (k:=2) (F:=136) (fu:=.agg #[.func (.func 134) #[] #[],.func (.func 135) #[] #[],.func (.func 136) #[] #[]]) (by decide) (by decide) (hZq hi) (fun _ => by kernel_rfl) (fun _ => by kernel_rfl) (fun _ _ => by kernel_rfl) x hx b hb HG (og:=tkDigest ((x :: b).drop f)) rfl rfl
  (hZq (by unfold tkAll tkBody; simp only; rw [if_neg (by omega),HG.out,hx]; simp)) (hZq fun w => (takeDigest_any ((x :: b).drop f) hb2 w)) w

theorem take_at3 (x:UInt8) (hx:x.toNat=3) (b:List UInt8) (hb:(x :: b).length≤4294967296) {n f:Nat} (HG:Hid (vget (x :: b) 1=(n,f,0))) (w:World) :
  Calls Tryz.prog 78 #[.string ⟨(x :: b).toArray⟩] w (TookA (tkAll (x :: b)) w):=by
 have hb2:((x :: b).drop f).length≤4294967296:=by rw [List.length_drop]; omega
 have hi:=fun w => isKind_any ((3:Nat):Int) w
 rw [show (decide ((1:Int)≤((3:Nat):Int)) && decide (((3:Nat):Int)≤4))=true by decide] at hi
 exact take_atk (k:=3) (F:=139) (fu:=.agg #[.func (.func 137) #[] #[],.func (.func 138) #[] #[],.func (.func 139) #[] #[]]) (by decide) (by decide) (hZq hi) (fun _ => by kernel_rfl) (fun _ => by kernel_rfl) (fun _ _ => by kernel_rfl) x hx b hb HG (og:=tkSnapshot ((x :: b).drop f)) rfl rfl
  (hZq (by unfold tkAll tkBody; simp only; rw [if_neg (by omega),HG.out,hx]; simp)) (hZq fun w => (takeSnapshot_any ((x :: b).drop f) hb2 w)) w

theorem take_at4 (x:UInt8) (hx:x.toNat=4) (b:List UInt8) (hb:(x :: b).length≤4294967296) {n f:Nat} (HG:Hid (vget (x :: b) 1=(n,f,0))) (w:World) :
  Calls Tryz.prog 78 #[.string ⟨(x :: b).toArray⟩] w (TookA (tkAll (x :: b)) w):=by
 have hb2:((x :: b).drop f).length≤4294967296:=by rw [List.length_drop]; omega
 have hi:=fun w => isKind_any ((4:Nat):Int) w
 rw [show (decide ((1:Int)≤((4:Nat):Int)) && decide (((4:Nat):Int)≤4))=true by decide] at hi
 exact take_atk (k:=4) (F:=142) (fu:=.agg #[.func (.func 140) #[] #[],.func (.func 141) #[] #[],.func (.func 142) #[] #[]]) (by decide) (by decide) (hZq hi) (fun _ => by kernel_rfl) (fun _ => by kernel_rfl) (fun _ _ => by kernel_rfl) x hx b hb HG (og:=tkResync ((x :: b).drop f)) rfl rfl
  (hZq (by unfold tkAll tkBody; simp only; rw [if_neg (by omega),HG.out,hx]; simp)) (hZq fun w => (takeResync_any ((x :: b).drop f) w)) w
end
section
open Go.RowKit

theorem idTake_shortF {l:List UInt8} {p:Int} {t:List UInt8} {f er:Nat} (h:idTake l p=(t,f,er)):t.length≤l.length:=by
 unfold idTake at h
 split at h
 ·simp only [Prod.mk.injEq] at h; rw [← h.1]; simp
 ·split at h
  ·exact vtake_short h
  ·simp only [Prod.mk.injEq] at h; rw [← h.1]; simp

theorem vaTake_shortF {l:List UInt8} {p:Int} {v:Val} {f er:Nat} (h:vaTake l p=(v,f,er)):v.st.length≤l.length:=by
 unfold vaTake at h
 split at h
 ·simp only [Prod.mk.injEq] at h; rw [← h.1]; simp [Val.zero]
 ·split at h
  ·simp only [Prod.mk.injEq] at h; rw [← h.1]; simp [Val.zero]
  ·split at h
   ·simp only [Prod.mk.injEq] at h; rw [← h.1]; simp [Val.zero]
   ·split at h
    ·simp only [Prod.mk.injEq] at h; rw [← h.1]; simp [Val.zero]
    ·split at h
     ·simp only [Prod.mk.injEq] at h; rw [← h.1]; simp [Val.zero]
     ·simp only [Prod.mk.injEq] at h
      rw [← h.1]
      exact vtake_short (er:=(vtake l (vget l (p+2)).2.1 32).2.2) (f:=(vtake l (vget l (p+2)).2.1 32).2.1) rfl

theorem diTake_shortF (l:List UInt8) (p:Int):Short (diTake l p).1:=by
 unfold diTake
 split
 ·exact fun r hr => by simp at hr
 ·split
  ·exact fun r hr => by simp at hr
  ·split
   ·exact fun r hr => by simp at hr
   ·split
    ·exact fun r hr => by simp at hr
    ·rename_i h
     exact ok_short (diMay_iff.1 (by simpa using h)).2.1

structure FrShort (g:Frm):Prop where
 c:g.c.length≤4294967296
 st:g.v.st.length≤4294967296
 t:Short g.t
 sum:g.sum < 18446744073709551616

theorem frShort_zero:FrShort Frm.zero:=⟨by simp [Frm.zero],by simp [Frm.zero,Val.zero],fun r hr => by simp [Frm.zero] at hr,by simp [Frm.zero]⟩

theorem tkBody_short (k:Nat) (b:List UInt8) (hb:b.length≤4294967296):FrShort ((tkBody k b).getD Frm.zero):=by
 unfold tkBody
 split
 ·unfold tkDelta
  repeat' split
  all_goals (first | exact frShort_zero | skip)
  ·exact⟨Nat.le_trans (idTake_shortF rfl) hb,by simp [Val.zero],fun r hr => by simp at hr,by simp⟩
  ·exact⟨Nat.le_trans (idTake_shortF rfl) hb,Nat.le_trans (vaTake_shortF rfl) hb,fun r hr => by simp at hr,by simp⟩
 ·split
  ·unfold tkDigest
   split
   ·exact frShort_zero
   ·exact⟨by simp,by simp [Val.zero],fun r hr => by simp at hr,sum8_take _⟩
  ·split
   ·unfold tkSnapshot
    split
    ·exact frShort_zero
    ·exact⟨by simp,by simp [Val.zero],diTake_shortF b 0,by simp⟩
   ·exact frShort_zero

theorem tkAll_short {t:List UInt8} (ht:t.length≤4294967296) {og:Option Frm} {k q:Int} (h:tkAll t=(og,k,q)):FrShort (og.getD Frm.zero):=by
 unfold tkAll at h
 split at h
 ·simp only [Prod.mk.injEq] at h; rw [← h.1]; exact frShort_zero
 ·split at h
  ·simp only [Prod.mk.injEq] at h; rw [← h.1]; exact frShort_zero
  ·split at h
   ·simp only [Prod.mk.injEq] at h; rw [← h.1]; exact frShort_zero
   ·simp only [Prod.mk.injEq] at h; rw [← h.1]
    exact tkBody_short _ _ (by rw [List.length_drop]; omega)

theorem frTakeBody_tk (k n:Nat) (b:List UInt8) (h1:1≤k) (h4:k≤4):frTakeBody k n b=(tkBody k b).map fun g => ⟨k,n,g.on,g.c,g.v,g.sum,g.t⟩:=by
 have hk:k=1∨k=2∨k=3∨k=4:=by omega
 unfold frTakeBody tkBody
 rcases hk with rfl | rfl | rfl | rfl
 ·simp only [if_true]
  unfold tkDelta
  repeat' split
  all_goals (first | rfl | simp_all)
 ·simp only [show ¬ (2=1) by omega,if_false,if_true]
  unfold tkDigest
  split <;> rfl
 ·simp only [show ¬ (3=1) by omega,show ¬ (3=2) by omega,if_false,if_true]
  unfold tkSnapshot
  split <;> rfl
 ·simp only [show ¬ (4=1) by omega,show ¬ (4=2) by omega,show ¬ (4=3) by omega,if_false]
  rfl

theorem frMay_far {k s:Int} {on:Bool} {c:List UInt8} {v:Val} {sum:Nat} {t:List Row} (h:s < 0∨1099511627776 < s):frMay ⟨k,s,on,c,v,sum,t⟩=false:=by
 cases hm:frMay ⟨k,s,on,c,v,sum,t⟩ with
 | false => rfl
 | true =>
  obtain⟨_,_,h0,h1,_⟩:=frMay_iff.1 hm
  simp only at h0 h1
  omega

theorem wrap_small {n:Nat} (h:n≤1099511627776):IntKind.i64.wrap (n:Int)=n:=by
 rw [wrap_i64F]; unfold wrap64; omega

theorem wrap_far {n:Nat} (h:1099511627776 < n) (hn:n < 18446744073709551616):IntKind.i64.wrap (n:Int) < 0∨1099511627776 < IntKind.i64.wrap (n:Int):=by
 rw [wrap_i64F]; unfold wrap64; omega

theorem frDec_tk {s t:List UInt8} (ht:copen s=(t,0)) {og:Option Frm} {k q:Int} (h:tkAll t=(og,k,q)) :
  (og=none→frDec s=(Frm.zero,3))∧∀ g,og=some g→frDec s=if frMay ⟨k,q,g.on,g.c,g.v,g.sum,g.t⟩=true∧frPlain ⟨k,q,g.on,g.c,g.v,g.sum,g.t⟩=t then (⟨k,q,g.on,g.c,g.v,g.sum,g.t⟩,0) else (Frm.zero,3):=by
 unfold frDec
 rw [ht]
 simp only [ne_eq,not_true_eq_false,if_false]
 unfold tkAll at h
 unfold frTake
 cases t with
 | nil =>
  simp only [Prod.mk.injEq] at h
  refine ⟨fun _ => rfl,fun g hg => ?_⟩
  rw [← h.1] at hg
  cases hg
 | cons x r =>
  simp only at h ⊢
  by_cases hk:x.toNat < 1∨4 < x.toNat
  ·rw [if_pos hk] at h ⊢
   simp only [Prod.mk.injEq] at h
   refine ⟨fun _ => rfl,fun g hg => ?_⟩
   rw [← h.1] at hg
   cases hg
  ·rw [if_neg hk] at h ⊢
   by_cases he:(vget (x :: r) 1).2.2 ≠ 0
   ·rw [if_pos he] at h ⊢
    simp only [Prod.mk.injEq] at h
    refine ⟨fun _ => rfl,fun g hg => ?_⟩
    rw [← h.1] at hg
    cases hg
   ·rw [if_neg he] at h ⊢
    simp only [Prod.mk.injEq] at h
    obtain⟨h1,rfl,rfl⟩:=h
    rw [frTakeBody_tk _ _ _ (by omega) (by omega),h1]
    refine ⟨fun h => by rw [h]; rfl,fun g hg => ?_⟩
    subst hg
    simp only [Option.map_some]
    by_cases hn:(vget (x :: r) 1).1≤1099511627776
    ·rw [wrap_small hn]
    ·have hf:=wrap_far (by omega:1099511627776 < (vget (x :: r) 1).1) (vget_facts (l:=x :: r) (p:=1) rfl).1
     rw [if_neg (fun h => by rw [frMay_far (.inr (by omega))] at h; simp at h),if_neg (fun h => by rw [frMay_far hf] at h; simp at h)]

theorem frtake_any (l:List UInt8) (hl:l.length≤4294967296) (w:World):Calls Tryz.prog 78 #[.string ⟨l.toArray⟩] w (TookA (tkAll l) w):=by
 cases l with
 | nil => exact take_nil w
 | cons x b =>
  by_cases hk:x.toNat < 1∨4 < x.toNat
  ·exact take_kind x b hk w
  ·obtain⟨n,f,er,hg⟩ : ∃ n f er,vget (x :: b) 1=(n,f,er):=⟨_,_,_,rfl⟩
   by_cases he:er=0
   ·subst he
    have h4:x.toNat=1∨x.toNat=2∨x.toNat=3∨x.toNat=4:=by omega
    rcases h4 with h | h | h | h
    ·exact take_at1 x h b hl (hZq hg) w
    ·exact take_at2 x h b hl (hZq hg) w
    ·exact take_at3 x h b hl (hZq hg) w
    ·exact take_at4 x h b hl (hZq hg) w
   ·exact take_get x b hl hk hg he w

theorem take_f (l:List UInt8) (hl:l.length≤4294967296) {og:Option Frm} {k q sh pr si:Int} {on:Bool} {c st:List UInt8} {sum:Nat} {tt:List Row} {k0 q0:Int} {ok:Bool} (h:Hid (tkAll l=(og,k,q))) (hg:Hid (og.getD Frm.zero=⟨k0,q0,on,c,⟨sh,pr,si,st⟩,sum,tt⟩)) (hok:Hid (og.isSome=ok)) (w:World) :
  Calls Tryz.prog 78 #[.string ⟨l.toArray⟩] w fun e w' => ∃ v,e=.returned (.tuple #[.agg #[.int .i64 k,.int .i64 q,.bool on,.string ⟨c.toArray⟩,.int .i64 sh,.int .i64 pr,.int .i64 si,.string ⟨st.toArray⟩,.int .u64 sum,v],.bool ok])∧OwnR w' w.heap.size v tt∧Below w.heap.size w w':=by
 have:=frtake_any l hl w
 unfold TookA at this
 rw [h.out] at this
 simp only [hg.out,hok.out,frAgg] at this
 exact this

theorem frmay_eqF {w:World} {v:Value} {k q sh pr si:Int} {on:Bool} {c st:List UInt8} {sum:Nat} {tt:List Row} (hv:Tab w v tt) (hsh:Short tt) (hc:c.length≤4294967296) (hs:st.length≤4294967296) {r:Bool} (h:Hid (frMay ⟨k,q,on,c,⟨sh,pr,si,st⟩,sum,tt⟩=r)) :
  Calls Tryz.prog 79 #[.agg #[.int .i64 k,.int .i64 q,.bool on,.string ⟨c.toArray⟩,.int .i64 sh,.int .i64 pr,.int .i64 si,.string ⟨st.toArray⟩,.int .u64 sum,v]] w fun e w' => e=.returned (.bool r)∧Below w.heap.size w w':=by
 have:=frmay_any hv hsh k q on c sh pr si st sum hc hs
 rw [h.out] at this
 exact this

theorem frput_eqF {w:World} {v:Value} {k q sh pr si:Int} {on:Bool} {c st:List UInt8} {sum:Nat} {tt:List Row} (hv:Tab w v tt) (hsh:Short tt) (hs:sum < 18446744073709551616) (hm:Hid (frMay ⟨k,q,on,c,⟨sh,pr,si,st⟩,sum,tt⟩=true)) {p:List UInt8} (h:Hid (frPlain ⟨k,q,on,c,⟨sh,pr,si,st⟩,sum,tt⟩=p)) :
  Calls Tryz.prog 80 #[.agg #[.int .i64 k,.int .i64 q,.bool on,.string ⟨c.toArray⟩,.int .i64 sh,.int .i64 pr,.int .i64 si,.string ⟨st.toArray⟩,.int .u64 sum,v]] w fun e w' => e=.returned (.string ⟨p.toArray⟩)∧Below w.heap.size w w':=by
 have:=frput_any hv hsh k q on c sh pr si st sum hs hm.out
 rw [h.out] at this
 exact this

theorem open_eqF (l:List UInt8) (hl:l.length≤4294967296) {t:List UInt8} {er:Nat} (h:Hid (copen l=(t,er))) (w:World) :
  Calls Tryz.prog 77 #[.string ⟨l.toArray⟩] w fun e w' => e=.returned (.tuple #[.string ⟨t.toArray⟩,.int .i64 er])∧Below w.heap.size w w':=by
 have:=open_any l hl w
 rw [h.out] at this
 exact this

theorem copen_lenF {l t:List UInt8} {er:Nat} (h:copen l=(t,er)):t.length≤l.length:=by
 unfold copen at h
 split at h
 ·simp only [Prod.mk.injEq] at h; rw [← h.1]; simp
 ·split at h
  ·simp only [Prod.mk.injEq] at h; rw [← h.1,List.length_take]; omega
  ·simp only [Prod.mk.injEq] at h; rw [← h.1]; simp

theorem frdec_err (s:List UInt8) (hl:s.length≤4294967296) {t:List UInt8} {er:Nat} (HT:Hid (copen s=(t,er))) (he:er ≠ 0) (w:World) :
  Calls Tryz.prog 49 #[.string ⟨s.toArray⟩] w fun e w' => ∃ v,e=.returned (.tuple #[.agg #[.int .i64 0,.int .i64 0,.bool false,.string ⟨#[]⟩,.int .i64 0,.int .i64 0,.int .i64 0,.string ⟨#[]⟩,.int .u64 0,v],.int .i64 er])∧OwnR w' w.heap.size v []∧Below w.heap.size w w':=by
 have t1:((er:Int) != 0)=true:=by simp; omega
 clear he
 have b0:=bl_newZ w (.cells #[.int .i64 0,.int .i64 0,.bool false,.string ⟨#[]⟩,.int .i64 0,.int .i64 0,.int .i64 0,.string ⟨#[]⟩,.int .u64 0,.slice none 0 0] 56)
 have HB:=hZq b0
 have R:=newQ w (.cells #[.int .i64 0,.int .i64 0,.bool false,.string ⟨#[]⟩,.int .i64 0,.int .i64 0,.int .i64 0,.string ⟨#[]⟩,.int .u64 0,.slice none 0 0] 56)
 replace R:=hZq R
 clear b0
 go_enter Tryz.func49,Tryz.ntmps49
 go_wp2_with fail
 refine (open_eqF s hl HT _).mono ?_
 rintro e w2 ⟨rfl,b2⟩
 replace R:=hZq (upQ R.out b2)
 replace HB:=hZq (below2Z HB.out b2)
 clear b2
 obtain⟨⟨Rc0,Rc1,Rc2,Rc3,Rc4,Rc5,Rc6,Rc7,Rc8,Rc9⟩,⟨Rf0,Rf1,Rf2,Rf3,Rf4,Rf5,Rf6,Rf7,Rf8,Rf9⟩⟩:=blk10 R.out
 go_wp2_with fail
 refine bodyPost_ret (v:=.tuple #[.agg #[.int .i64 0,.int .i64 0,.bool false,.string ⟨#[]⟩,.int .i64 0,.int .i64 0,.int .i64 0,.string ⟨#[]⟩,.int .u64 0,.slice none 0 0],.int .i64 er]) (by simp [results,Tryz.results49,go_sem,Rc0,Rc1,Rc2,Rc3,Rc4,Rc5,Rc6,Rc7,Rc8,Rc9]) rfl ⟨_,rfl,ownR_nil _ _,?_⟩
 exact ((((((((((HB.out.setCell (Nat.le_refl _) _).setCell (Nat.le_refl _) _).setCell (Nat.le_refl _) _).setCell (Nat.le_refl _) _).setCell (Nat.le_refl _) _).setCell (Nat.le_refl _) _).setCell (Nat.le_refl _) _).setCell (Nat.le_refl _) _).setCell (Nat.le_refl _) _).setCell (Nat.le_refl _) _)

theorem frdec_cut (s:List UInt8) (hl:s.length≤4294967296) {t:List UInt8} (HT:Hid (copen s=(t,0))) (htl:t.length≤4294967296) {og:Option Frm} {k q sh pr si:Int} {on:Bool} {c st:List UInt8} {sum:Nat} {tt:List Row} {k0 q0:Int} (HE:Hid (tkAll t=(og,k,q))) (HG:Hid (og.getD Frm.zero=⟨k0,q0,on,c,⟨sh,pr,si,st⟩,sum,tt⟩)) (HK:Hid (og.isSome=false)) (w:World) :
  Calls Tryz.prog 49 #[.string ⟨s.toArray⟩] w fun e w' => ∃ v,e=.returned (.tuple #[.agg #[.int .i64 0,.int .i64 0,.bool false,.string ⟨#[]⟩,.int .i64 0,.int .i64 0,.int .i64 0,.string ⟨#[]⟩,.int .u64 0,v],.int .i64 3])∧OwnR w' w.heap.size v []∧Below w.heap.size w w':=by
 have b0:=bl_newZ w (.cells #[.int .i64 0,.int .i64 0,.bool false,.string ⟨#[]⟩,.int .i64 0,.int .i64 0,.int .i64 0,.string ⟨#[]⟩,.int .u64 0,.slice none 0 0] 56)
 have HB:=hZq b0
 have R:=newQ w (.cells #[.int .i64 0,.int .i64 0,.bool false,.string ⟨#[]⟩,.int .i64 0,.int .i64 0,.int .i64 0,.string ⟨#[]⟩,.int .u64 0,.slice none 0 0] 56)
 replace R:=hZq R
 clear b0
 go_enter Tryz.func49,Tryz.ntmps49
 go_wp2_with fail
 refine (open_eqF s hl HT _).mono ?_
 rintro e w2 ⟨rfl,b2⟩
 replace R:=hZq (upQ R.out b2)
 replace HB:=hZq (below2Z HB.out b2)
 clear b2
 go_wp2_with fail
 have hRl:=(Array.getElem?_eq_some_iff.1 R.out).1
 refine (take_f t htl HE HG HK _).mono ?_
 rintro e w3 ⟨v,rfl,hov,b3⟩
 replace R:=hZq (upQ R.out b3)
 replace HB:=hZq (below2Z HB.out b3)
 obtain⟨va,vc,rfl,-⟩:=Tab.open' (OwnR.tab hov)
 have V:=hZq (OwnR.mono hov (Nat.succ_le_of_lt hRl))
 clear hov hRl
 clear b3
 obtain⟨⟨Rc0,Rc1,Rc2,Rc3,Rc4,Rc5,Rc6,Rc7,Rc8,Rc9⟩,⟨Rf0,Rf1,Rf2,Rf3,Rf4,Rf5,Rf6,Rf7,Rf8,Rf9⟩⟩:=blk10 R.out
 have hR:=(Array.getElem?_eq_some_iff.1 R.out).1
 go_wp2_with fail
 refine bodyPost_ret (v:=.tuple #[.agg #[.int .i64 0,.int .i64 0,.bool false,.string ⟨#[]⟩,.int .i64 0,.int .i64 0,.int .i64 0,.string ⟨#[]⟩,.int .u64 0,.slice none 0 0],.int .i64 3]) (by simp [results,Tryz.results49,go_sem,Rc0,Rc1,Rc2,Rc3,Rc4,Rc5,Rc6,Rc7,Rc8,Rc9,World.cell?_alloc_lt,hR]) rfl ⟨_,rfl,ownR_nil _ _,?_⟩
 exact (((((((((((HB.out.setCell (Nat.le_refl _) _).setCell (Nat.le_refl _) _).setCell (Nat.le_refl _) _).setCell (Nat.le_refl _) _).setCell (Nat.le_refl _) _).setCell (Nat.le_refl _) _).setCell (Nat.le_refl _) _).setCell (Nat.le_refl _) _).setCell (Nat.le_refl _) _).setCell (Nat.le_refl _) _)).alloc (by simp only [setCell_size]; exact HB.out.size) _

theorem frdec_no (s:List UInt8) (hl:s.length≤4294967296) {t:List UInt8} (HT:Hid (copen s=(t,0))) (htl:t.length≤4294967296) {og:Option Frm} {k q sh pr si:Int} {on:Bool} {c st:List UInt8} {sum:Nat} {tt:List Row} {k0 q0:Int} (HE:Hid (tkAll t=(og,k,q))) (HG:Hid (og.getD Frm.zero=⟨k0,q0,on,c,⟨sh,pr,si,st⟩,sum,tt⟩)) (HK:Hid (og.isSome=true)) (HSH:Hid (Short tt)) (hc:c.length≤4294967296) (hst:st.length≤4294967296) (HM:Hid (frMay ⟨k,q,on,c,⟨sh,pr,si,st⟩,sum,tt⟩=false)) (w:World) :
  Calls Tryz.prog 49 #[.string ⟨s.toArray⟩] w fun e w' => ∃ v,e=.returned (.tuple #[.agg #[.int .i64 0,.int .i64 0,.bool false,.string ⟨#[]⟩,.int .i64 0,.int .i64 0,.int .i64 0,.string ⟨#[]⟩,.int .u64 0,v],.int .i64 3])∧OwnR w' w.heap.size v []∧Below w.heap.size w w':=by
 have b0:=bl_newZ w (.cells #[.int .i64 0,.int .i64 0,.bool false,.string ⟨#[]⟩,.int .i64 0,.int .i64 0,.int .i64 0,.string ⟨#[]⟩,.int .u64 0,.slice none 0 0] 56)
 have HB:=hZq b0
 have R:=newQ w (.cells #[.int .i64 0,.int .i64 0,.bool false,.string ⟨#[]⟩,.int .i64 0,.int .i64 0,.int .i64 0,.string ⟨#[]⟩,.int .u64 0,.slice none 0 0] 56)
 replace R:=hZq R
 clear b0
 go_enter Tryz.func49,Tryz.ntmps49
 go_wp2_with fail
 refine (open_eqF s hl HT _).mono ?_
 rintro e w2 ⟨rfl,b2⟩
 replace R:=hZq (upQ R.out b2)
 replace HB:=hZq (below2Z HB.out b2)
 clear b2
 go_wp2_with fail
 have hRl:=(Array.getElem?_eq_some_iff.1 R.out).1
 refine (take_f t htl HE HG HK _).mono ?_
 rintro e w3 ⟨v,rfl,hov,b3⟩
 replace R:=hZq (upQ R.out b3)
 replace HB:=hZq (below2Z HB.out b3)
 obtain⟨va,vc,rfl,-⟩:=Tab.open' (OwnR.tab hov)
 have V:=hZq (OwnR.mono hov (Nat.succ_le_of_lt hRl))
 clear hov hRl
 clear b3
 go_wp2_with fail
 have b4:=bl_newZ w3 (.cells #[.int .i64 k,.int .i64 q,.bool on,.string ⟨c.toArray⟩,.int .i64 sh,.int .i64 pr,.int .i64 si,.string ⟨st.toArray⟩,.int .u64 sum,.slice va tt.length vc] 56)
 have E:=newQ w3 (.cells #[.int .i64 k,.int .i64 q,.bool on,.string ⟨c.toArray⟩,.int .i64 sh,.int .i64 pr,.int .i64 si,.string ⟨st.toArray⟩,.int .u64 sum,.slice va tt.length vc] 56)
 have hE:w.heap.size≤w3.heap.size:=HB.out.size
 replace R:=hZq (upQ R.out b4)
 replace V:=hZq (OwnR.later V.out b4)
 replace HB:=hZq (below2Z HB.out b4)
 clear b4
 replace E:=hZq E
 generalize w3.alloc (.cells #[.int .i64 k,.int .i64 q,.bool on,.string ⟨c.toArray⟩,.int .i64 sh,.int .i64 pr,.int .i64 si,.string ⟨st.toArray⟩,.int .u64 sum,.slice va tt.length vc] 56)=w5 at R E V HB ⊢
 generalize w3.heap.size=BE at E hE ⊢
 obtain⟨⟨Ec0,Ec1,Ec2,Ec3,Ec4,Ec5,Ec6,Ec7,Ec8,Ec9⟩,⟨Ef0,Ef1,Ef2,Ef3,Ef4,Ef5,Ef6,Ef7,Ef8,Ef9⟩⟩:=blk10 E.out
 go_wp2_with fail
 clear Ec0 Ec1 Ec2 Ec3 Ec4 Ec5 Ec6 Ec7 Ec8 Ec9 Ef0 Ef1 Ef2 Ef3 Ef4 Ef5 Ef6 Ef7 Ef8 Ef9
 refine (frmay_eqF (OwnR.tab V.out) HSH.out hc hst HM).mono ?_
 rintro e w6 ⟨rfl,b6⟩
 replace R:=hZq (upQ R.out b6)
 replace E:=hZq (upQ E.out b6)
 replace V:=hZq (OwnR.later V.out b6)
 replace HB:=hZq (below2Z HB.out b6)
 clear b6
 obtain⟨⟨Rc0,Rc1,Rc2,Rc3,Rc4,Rc5,Rc6,Rc7,Rc8,Rc9⟩,⟨Rf0,Rf1,Rf2,Rf3,Rf4,Rf5,Rf6,Rf7,Rf8,Rf9⟩⟩:=blk10 R.out
 go_wp2_with fail
 refine bodyPost_ret (v:=.tuple #[.agg #[.int .i64 0,.int .i64 0,.bool false,.string ⟨#[]⟩,.int .i64 0,.int .i64 0,.int .i64 0,.string ⟨#[]⟩,.int .u64 0,.slice none 0 0],.int .i64 3]) (by simp [results,Tryz.results49,go_sem,Rc0,Rc1,Rc2,Rc3,Rc4,Rc5,Rc6,Rc7,Rc8,Rc9]) rfl ⟨_,rfl,ownR_nil _ _,?_⟩
 exact ((((((((((HB.out.setCell (Nat.le_refl _) _).setCell (Nat.le_refl _) _).setCell (Nat.le_refl _) _).setCell (Nat.le_refl _) _).setCell (Nat.le_refl _) _).setCell (Nat.le_refl _) _).setCell (Nat.le_refl _) _).setCell (Nat.le_refl _) _).setCell (Nat.le_refl _) _).setCell (Nat.le_refl _) _)

theorem frdec_dif (s:List UInt8) (hl:s.length≤4294967296) {t:List UInt8} (HT:Hid (copen s=(t,0))) (htl:t.length≤4294967296) {og:Option Frm} {k q sh pr si:Int} {on:Bool} {c st:List UInt8} {sum:Nat} {tt:List Row} {k0 q0:Int} (HE:Hid (tkAll t=(og,k,q))) (HG:Hid (og.getD Frm.zero=⟨k0,q0,on,c,⟨sh,pr,si,st⟩,sum,tt⟩)) (HK:Hid (og.isSome=true)) (HSH:Hid (Short tt)) (hc:c.length≤4294967296) (hst:st.length≤4294967296) (hsum:sum < 18446744073709551616) (HM:Hid (frMay ⟨k,q,on,c,⟨sh,pr,si,st⟩,sum,tt⟩=true)) {p:List UInt8} (HP:Hid (frPlain ⟨k,q,on,c,⟨sh,pr,si,st⟩,sum,tt⟩=p)) (T1:Hid ((p == t)=false)) (w:World) :
  Calls Tryz.prog 49 #[.string ⟨s.toArray⟩] w fun e w' => ∃ v,e=.returned (.tuple #[.agg #[.int .i64 0,.int .i64 0,.bool false,.string ⟨#[]⟩,.int .i64 0,.int .i64 0,.int .i64 0,.string ⟨#[]⟩,.int .u64 0,v],.int .i64 3])∧OwnR w' w.heap.size v []∧Below w.heap.size w w':=by
 have b0:=bl_newZ w (.cells #[.int .i64 0,.int .i64 0,.bool false,.string ⟨#[]⟩,.int .i64 0,.int .i64 0,.int .i64 0,.string ⟨#[]⟩,.int .u64 0,.slice none 0 0] 56)
 have HB:=hZq b0
 have R:=newQ w (.cells #[.int .i64 0,.int .i64 0,.bool false,.string ⟨#[]⟩,.int .i64 0,.int .i64 0,.int .i64 0,.string ⟨#[]⟩,.int .u64 0,.slice none 0 0] 56)
 replace R:=hZq R
 clear b0
 go_enter Tryz.func49,Tryz.ntmps49
 go_wp2_with fail
 refine (open_eqF s hl HT _).mono ?_
 rintro e w2 ⟨rfl,b2⟩
 replace R:=hZq (upQ R.out b2)
 replace HB:=hZq (below2Z HB.out b2)
 clear b2
 go_wp2_with fail
 have hRl:=(Array.getElem?_eq_some_iff.1 R.out).1
 refine (take_f t htl HE HG HK _).mono ?_
 rintro e w3 ⟨v,rfl,hov,b3⟩
 replace R:=hZq (upQ R.out b3)
 replace HB:=hZq (below2Z HB.out b3)
 obtain⟨va,vc,rfl,-⟩:=Tab.open' (OwnR.tab hov)
 have V:=hZq (OwnR.mono hov (Nat.succ_le_of_lt hRl))
 clear hov hRl
 clear b3
 go_wp2_with fail
 have b4:=bl_newZ w3 (.cells #[.int .i64 k,.int .i64 q,.bool on,.string ⟨c.toArray⟩,.int .i64 sh,.int .i64 pr,.int .i64 si,.string ⟨st.toArray⟩,.int .u64 sum,.slice va tt.length vc] 56)
 have E:=newQ w3 (.cells #[.int .i64 k,.int .i64 q,.bool on,.string ⟨c.toArray⟩,.int .i64 sh,.int .i64 pr,.int .i64 si,.string ⟨st.toArray⟩,.int .u64 sum,.slice va tt.length vc] 56)
 have hE:w.heap.size≤w3.heap.size:=HB.out.size
 replace R:=hZq (upQ R.out b4)
 replace V:=hZq (OwnR.later V.out b4)
 replace HB:=hZq (below2Z HB.out b4)
 clear b4
 replace E:=hZq E
 generalize w3.alloc (.cells #[.int .i64 k,.int .i64 q,.bool on,.string ⟨c.toArray⟩,.int .i64 sh,.int .i64 pr,.int .i64 si,.string ⟨st.toArray⟩,.int .u64 sum,.slice va tt.length vc] 56)=w5 at R E V HB ⊢
 generalize w3.heap.size=BE at E hE ⊢
 obtain⟨⟨Ec0,Ec1,Ec2,Ec3,Ec4,Ec5,Ec6,Ec7,Ec8,Ec9⟩,⟨Ef0,Ef1,Ef2,Ef3,Ef4,Ef5,Ef6,Ef7,Ef8,Ef9⟩⟩:=blk10 E.out
 go_wp2_with fail
 clear Ec0 Ec1 Ec2 Ec3 Ec4 Ec5 Ec6 Ec7 Ec8 Ec9 Ef0 Ef1 Ef2 Ef3 Ef4 Ef5 Ef6 Ef7 Ef8 Ef9
 refine (frmay_eqF (OwnR.tab V.out) HSH.out hc hst HM).mono ?_
 rintro e w6 ⟨rfl,b6⟩
 replace R:=hZq (upQ R.out b6)
 replace E:=hZq (upQ E.out b6)
 replace V:=hZq (OwnR.later V.out b6)
 replace HB:=hZq (below2Z HB.out b6)
 clear b6
 obtain⟨⟨Ec0,Ec1,Ec2,Ec3,Ec4,Ec5,Ec6,Ec7,Ec8,Ec9⟩,⟨Ef0,Ef1,Ef2,Ef3,Ef4,Ef5,Ef6,Ef7,Ef8,Ef9⟩⟩:=blk10 E.out
 go_wp2_with fail
 clear Ec0 Ec1 Ec2 Ec3 Ec4 Ec5 Ec6 Ec7 Ec8 Ec9 Ef0 Ef1 Ef2 Ef3 Ef4 Ef5 Ef6 Ef7 Ef8 Ef9
 refine (frput_eqF (OwnR.tab V.out) HSH.out hsum HM HP).mono ?_
 rintro e w7 ⟨rfl,b7⟩
 replace R:=hZq (upQ R.out b7)
 replace E:=hZq (upQ E.out b7)
 replace V:=hZq (OwnR.later V.out b7)
 replace HB:=hZq (below2Z HB.out b7)
 clear b7
 obtain⟨⟨Rc0,Rc1,Rc2,Rc3,Rc4,Rc5,Rc6,Rc7,Rc8,Rc9⟩,⟨Rf0,Rf1,Rf2,Rf3,Rf4,Rf5,Rf6,Rf7,Rf8,Rf9⟩⟩:=blk10 R.out
 have t1:=T1.out
 go_wp2_with fail
 refine bodyPost_ret (v:=.tuple #[.agg #[.int .i64 0,.int .i64 0,.bool false,.string ⟨#[]⟩,.int .i64 0,.int .i64 0,.int .i64 0,.string ⟨#[]⟩,.int .u64 0,.slice none 0 0],.int .i64 3]) (by simp [results,Tryz.results49,go_sem,Rc0,Rc1,Rc2,Rc3,Rc4,Rc5,Rc6,Rc7,Rc8,Rc9]) rfl ⟨_,rfl,ownR_nil _ _,?_⟩
 exact ((((((((((HB.out.setCell (Nat.le_refl _) _).setCell (Nat.le_refl _) _).setCell (Nat.le_refl _) _).setCell (Nat.le_refl _) _).setCell (Nat.le_refl _) _).setCell (Nat.le_refl _) _).setCell (Nat.le_refl _) _).setCell (Nat.le_refl _) _).setCell (Nat.le_refl _) _).setCell (Nat.le_refl _) _)

theorem frdec_ok (s:List UInt8) (hl:s.length≤4294967296) {t:List UInt8} (HT:Hid (copen s=(t,0))) (htl:t.length≤4294967296) {og:Option Frm} {k q sh pr si:Int} {on:Bool} {c st:List UInt8} {sum:Nat} {tt:List Row} {k0 q0:Int} (HE:Hid (tkAll t=(og,k,q))) (HG:Hid (og.getD Frm.zero=⟨k0,q0,on,c,⟨sh,pr,si,st⟩,sum,tt⟩)) (HK:Hid (og.isSome=true)) (HSH:Hid (Short tt)) (hc:c.length≤4294967296) (hst:st.length≤4294967296) (hsum:sum < 18446744073709551616) (HM:Hid (frMay ⟨k,q,on,c,⟨sh,pr,si,st⟩,sum,tt⟩=true)) (HP:Hid (frPlain ⟨k,q,on,c,⟨sh,pr,si,st⟩,sum,tt⟩=t)) (w:World) :
  Calls Tryz.prog 49 #[.string ⟨s.toArray⟩] w fun e w' => ∃ v,e=.returned (.tuple #[.agg #[.int .i64 k,.int .i64 q,.bool on,.string ⟨c.toArray⟩,.int .i64 sh,.int .i64 pr,.int .i64 si,.string ⟨st.toArray⟩,.int .u64 sum,v],.int .i64 0])∧OwnR w' w.heap.size v tt∧Below w.heap.size w w':=by
 have b0:=bl_newZ w (.cells #[.int .i64 0,.int .i64 0,.bool false,.string ⟨#[]⟩,.int .i64 0,.int .i64 0,.int .i64 0,.string ⟨#[]⟩,.int .u64 0,.slice none 0 0] 56)
 have HB:=hZq b0
 have R:=newQ w (.cells #[.int .i64 0,.int .i64 0,.bool false,.string ⟨#[]⟩,.int .i64 0,.int .i64 0,.int .i64 0,.string ⟨#[]⟩,.int .u64 0,.slice none 0 0] 56)
 replace R:=hZq R
 clear b0
 go_enter Tryz.func49,Tryz.ntmps49
 go_wp2_with fail
 refine (open_eqF s hl HT _).mono ?_
 rintro e w2 ⟨rfl,b2⟩
 replace R:=hZq (upQ R.out b2)
 replace HB:=hZq (below2Z HB.out b2)
 clear b2
 go_wp2_with fail
 have hRl:=(Array.getElem?_eq_some_iff.1 R.out).1
 refine (take_f t htl HE HG HK _).mono ?_
 rintro e w3 ⟨v,rfl,hov,b3⟩
 replace R:=hZq (upQ R.out b3)
 replace HB:=hZq (below2Z HB.out b3)
 obtain⟨va,vc,rfl,-⟩:=Tab.open' (OwnR.tab hov)
 have V:=hZq (OwnR.mono hov (Nat.succ_le_of_lt hRl))
 clear hov hRl
 clear b3
 go_wp2_with fail
 have b4:=bl_newZ w3 (.cells #[.int .i64 k,.int .i64 q,.bool on,.string ⟨c.toArray⟩,.int .i64 sh,.int .i64 pr,.int .i64 si,.string ⟨st.toArray⟩,.int .u64 sum,.slice va tt.length vc] 56)
 have E:=newQ w3 (.cells #[.int .i64 k,.int .i64 q,.bool on,.string ⟨c.toArray⟩,.int .i64 sh,.int .i64 pr,.int .i64 si,.string ⟨st.toArray⟩,.int .u64 sum,.slice va tt.length vc] 56)
 have hE:w.heap.size≤w3.heap.size:=HB.out.size
 replace R:=hZq (upQ R.out b4)
 replace V:=hZq (OwnR.later V.out b4)
 replace HB:=hZq (below2Z HB.out b4)
 clear b4
 replace E:=hZq E
 generalize w3.alloc (.cells #[.int .i64 k,.int .i64 q,.bool on,.string ⟨c.toArray⟩,.int .i64 sh,.int .i64 pr,.int .i64 si,.string ⟨st.toArray⟩,.int .u64 sum,.slice va tt.length vc] 56)=w5 at R E V HB ⊢
 generalize w3.heap.size=BE at E hE ⊢
 obtain⟨⟨Ec0,Ec1,Ec2,Ec3,Ec4,Ec5,Ec6,Ec7,Ec8,Ec9⟩,⟨Ef0,Ef1,Ef2,Ef3,Ef4,Ef5,Ef6,Ef7,Ef8,Ef9⟩⟩:=blk10 E.out
 go_wp2_with fail
 clear Ec0 Ec1 Ec2 Ec3 Ec4 Ec5 Ec6 Ec7 Ec8 Ec9 Ef0 Ef1 Ef2 Ef3 Ef4 Ef5 Ef6 Ef7 Ef8 Ef9
 refine (frmay_eqF (OwnR.tab V.out) HSH.out hc hst HM).mono ?_
 rintro e w6 ⟨rfl,b6⟩
 replace R:=hZq (upQ R.out b6)
 replace E:=hZq (upQ E.out b6)
 replace V:=hZq (OwnR.later V.out b6)
 replace HB:=hZq (below2Z HB.out b6)
 clear b6
 obtain⟨⟨Ec0,Ec1,Ec2,Ec3,Ec4,Ec5,Ec6,Ec7,Ec8,Ec9⟩,⟨Ef0,Ef1,Ef2,Ef3,Ef4,Ef5,Ef6,Ef7,Ef8,Ef9⟩⟩:=blk10 E.out
 go_wp2_with fail
 clear Ec0 Ec1 Ec2 Ec3 Ec4 Ec5 Ec6 Ec7 Ec8 Ec9 Ef0 Ef1 Ef2 Ef3 Ef4 Ef5 Ef6 Ef7 Ef8 Ef9
 refine (frput_eqF (OwnR.tab V.out) HSH.out hsum HM HP).mono ?_
 rintro e w7 ⟨rfl,b7⟩
 replace R:=hZq (upQ R.out b7)
 replace E:=hZq (upQ E.out b7)
 replace V:=hZq (OwnR.later V.out b7)
 replace HB:=hZq (below2Z HB.out b7)
 clear b7
 obtain⟨⟨Rc0,Rc1,Rc2,Rc3,Rc4,Rc5,Rc6,Rc7,Rc8,Rc9⟩,⟨Rf0,Rf1,Rf2,Rf3,Rf4,Rf5,Rf6,Rf7,Rf8,Rf9⟩⟩:=blk10 R.out
 obtain⟨⟨Ec0,Ec1,Ec2,Ec3,Ec4,Ec5,Ec6,Ec7,Ec8,Ec9⟩,⟨Ef0,Ef1,Ef2,Ef3,Ef4,Ef5,Ef6,Ef7,Ef8,Ef9⟩⟩:=blk10 E.out
 go_wp2_with fail
 refine bodyPost_ret (v:=.tuple #[.agg #[.int .i64 k,.int .i64 q,.bool on,.string ⟨c.toArray⟩,.int .i64 sh,.int .i64 pr,.int .i64 si,.string ⟨st.toArray⟩,.int .u64 sum,.slice va tt.length vc],.int .i64 0]) (by simp [results,Tryz.results49,go_sem,Rc0,Rc1,Rc2,Rc3,Rc4,Rc5,Rc6,Rc7,Rc8,Rc9]) rfl ⟨_,rfl,OwnR.mono ((((((((((V.out.setCell (Nat.lt_succ_self _) _).setCell (Nat.lt_succ_self _) _).setCell (Nat.lt_succ_self _) _).setCell (Nat.lt_succ_self _) _).setCell (Nat.lt_succ_self _) _).setCell (Nat.lt_succ_self _) _).setCell (Nat.lt_succ_self _) _).setCell (Nat.lt_succ_self _) _).setCell (Nat.lt_succ_self _) _).setCell (Nat.lt_succ_self _) _) (Nat.le_succ _),?_⟩
 exact ((((((((((HB.out.setCell (Nat.le_refl _) _).setCell (Nat.le_refl _) _).setCell (Nat.le_refl _) _).setCell (Nat.le_refl _) _).setCell (Nat.le_refl _) _).setCell (Nat.le_refl _) _).setCell (Nat.le_refl _) _).setCell (Nat.le_refl _) _).setCell (Nat.le_refl _) _).setCell (Nat.le_refl _) _)

theorem frdec_any (s:List UInt8) (hl:s.length≤4294967296) {k q sh pr si:Int} {on:Bool} {c st:List UInt8} {sum:Nat} {tt:List Row} {er:Nat} (h:Hid (frDec s=(⟨k,q,on,c,⟨sh,pr,si,st⟩,sum,tt⟩,er))) (w:World) :
  Calls Tryz.prog 49 #[.string ⟨s.toArray⟩] w fun e w' => ∃ v,e=.returned (.tuple #[.agg #[.int .i64 k,.int .i64 q,.bool on,.string ⟨c.toArray⟩,.int .i64 sh,.int .i64 pr,.int .i64 si,.string ⟨st.toArray⟩,.int .u64 sum,v],.int .i64 er])∧OwnR w' w.heap.size v tt∧Below w.heap.size w w':=by
 have e:=h.out
 obtain⟨t,er0,ht⟩ : ∃ t er,copen s=(t,er):=⟨_,_,rfl⟩
 have htl:=copen_lenF ht
 by_cases he:er0=0
 case neg =>
  unfold frDec at e
  rw [ht,if_pos (by simpa using he)] at e
  simp only [Frm.zero,Val.zero,Prod.mk.injEq,Frm.mk.injEq,Val.mk.injEq] at e
  obtain⟨⟨rfl,rfl,rfl,rfl,⟨rfl,rfl,rfl,rfl⟩,rfl,rfl⟩,rfl⟩:=e
  exact frdec_err s hl (hZq ht) he w
 subst he
 obtain⟨og,k1,q1,htk⟩ : ∃ og k q,tkAll t=(og,k,q):=⟨_,_,_,rfl⟩
 have hd:=frDec_tk ht htk
 have hs:=tkAll_short (by omega) htk
 cases og with
 | none =>
  rw [hd.1 rfl] at e
  simp only [Frm.zero,Val.zero,Prod.mk.injEq,Frm.mk.injEq,Val.mk.injEq] at e
  obtain⟨⟨rfl,rfl,rfl,rfl,⟨rfl,rfl,rfl,rfl⟩,rfl,rfl⟩,rfl⟩:=e
  exact frdec_cut s hl (hZq ht) (by omega) (hZq htk) (hZq rfl) (hZq rfl) w
 | some g =>
  rw [hd.2 g rfl] at e
  obtain⟨k0,q0,on0,c0,⟨sh0,pr0,si0,st0⟩,sum0,t0⟩:=g
  simp only at e
  obtain⟨s1,s2,s3,s4⟩:=hs
  simp only [Option.getD_some] at s1 s2 s3 s4
  cases hm:frMay ⟨k1,q1,on0,c0,⟨sh0,pr0,si0,st0⟩,sum0,t0⟩ with
  | false =>
   rw [if_neg (by simp [hm])] at e
   simp only [Frm.zero,Val.zero,Prod.mk.injEq,Frm.mk.injEq,Val.mk.injEq] at e
   obtain⟨⟨rfl,rfl,rfl,rfl,⟨rfl,rfl,rfl,rfl⟩,rfl,rfl⟩,rfl⟩:=e
   exact frdec_no s hl (hZq ht) (by omega) (hZq htk) (hZq rfl) (hZq rfl) (hZq s3) s1 s2 (hZq hm) w
  | true =>
   by_cases hp:frPlain ⟨k1,q1,on0,c0,⟨sh0,pr0,si0,st0⟩,sum0,t0⟩=t
   ·rw [if_pos ⟨hm,hp⟩] at e
    simp only [Prod.mk.injEq,Frm.mk.injEq,Val.mk.injEq] at e
    obtain⟨⟨rfl,rfl,rfl,rfl,⟨rfl,rfl,rfl,rfl⟩,rfl,rfl⟩,rfl⟩:=e
    exact frdec_ok s hl (hZq ht) (by omega) (hZq htk) (hZq rfl) (hZq rfl) (hZq s3) s1 s2 s4 (hZq hm) (hZq hp) w
   ·rw [if_neg (fun h => hp h.2)] at e
    simp only [Frm.zero,Val.zero,Prod.mk.injEq,Frm.mk.injEq,Val.mk.injEq] at e
    obtain⟨⟨rfl,rfl,rfl,rfl,⟨rfl,rfl,rfl,rfl⟩,rfl,rfl⟩,rfl⟩:=e
    exact frdec_dif s hl (hZq ht) (by omega) (hZq htk) (hZq rfl) (hZq rfl) (hZq s3) s1 s2 s4 (hZq hm) (hZq rfl) (hZq (by rw [beq_eq_false_iff_ne]; exact hp)) w
end
section
open Go.RowKit

def frSame (f g:Frm):Bool:=(f.k == g.k) && ((f.s == g.s) && ((f.on == g.on) && ((f.c == g.c) && (vSame f.v g.v && ((f.sum == g.sum) && tSame f.t g.t)))))
end
section
open Go.RowKit

theorem sequal_any {w:World} {v u:Value} {t s:List Row} (hv:Tab w v t) (hu:Tab w u s) :
  Calls Tryz.prog 73 #[v,u] w fun e w' => e=.returned (.bool (tSame t s))∧Below w.heap.size w w':=by
 have HV:=hZq hv
 have HU:=hZq hu
 obtain⟨a,cap,rfl,hm⟩:=hv.open'
 obtain⟨a2,cap2,rfl,hm2⟩:=hu.open'
 clear hv hu
 by_cases hl:t.length=s.length
 ·have HL:=hZq hl
  have t1:((t.length:Int) != (s.length:Int))=false:=by simp [hl]
  clear hl
  go_enter Tryz.func73,Tryz.ntmps73
  go_wp2_with fail
  go_loopw [13] (fun i wr => ∃ k:Nat,k≤t.length∧i=.int .i64 k∧Hid (Below w.heap.size w wr)∧Hid ((List.range k).all (fun i => rSame (t.getD i Row.zero) (s.getD i Row.zero))=true)) (fun i _ => t.length - (intOf i).toNat)
  case atStart => exact⟨0,by omega,rfl,Below.refl _ _,by show _=_; simp⟩
  case round =>
   obtain⟨k,hk,rfl,HN,HA⟩:=hrel
   by_cases hlt:k < t.length
   ·obtain⟨b,off,rfl,h0,h1,h2,h3,h4⟩:=HV.out.row HN.out k hlt
    obtain⟨b2,off2,rfl,i0,i1,i2,i3,i4⟩:=HU.out.row HN.out k (by rw [← HL.out]; exact hlt)
    have hlt2:k < s.length:=by rw [← HL.out]; exact hlt
    obtain⟨⟨c,⟨x,y,z,st⟩⟩,hr⟩ : ∃ r,t.getD k Row.zero=r:=⟨_,rfl⟩
    obtain⟨⟨c',⟨x',y',z',st'⟩⟩,hr'⟩ : ∃ r,s.getD k Row.zero=r:=⟨_,rfl⟩
    rw [hr] at h0 h1 h2 h3 h4
    rw [hr'] at i0 i1 i2 i3 i4
    have hgd:Tryz.prog.eqGuardType Tryz.prog.depth 73=false:=by kernel_rfl
    have hne:=row_neq5 c c' x y z x' y' z' st st'
    cases hs:rSame ⟨c,x,y,z,st⟩ ⟨c',x',y',z',st'⟩ with
    | false =>
     have HR:Hid (tSame t s=false):=by show _=_; exact tSame_off hlt (by rw [hr,hr']; exact hs)
     rw [hs] at hne
     simp only at h0 h1 h2 h3 h4 i0 i1 i2 i3 i4
     clear hr hr' hs
     go_wp2_with fail
     go_region
     go_wp2_with fail
     go_ret
     exact⟨by rw [HR.out]; rfl,HN.out.drew⟩
    | true =>
     have HA2:Hid ((List.range (k+1)).all (fun i => rSame (t.getD i Row.zero) (s.getD i Row.zero))=true):=by show _=_; exact tSame_next HA.out (by rw [hr,hr']; exact hs)
     rw [hs] at hne
     simp only at h0 h1 h2 h3 h4 i0 i1 i2 i3 i4
     clear hr hr' hs
     go_wp2_with fail
     go_region
     go_wp2_with fail
     go_roundw
     case rel => exact⟨k+1,by omega,by go_num,HN.out.drew,HA2⟩
     case measure => simp [intOf]; omega
   ·obtain rfl:k=t.length:=by omega
    have HR:Hid (tSame t s=true):=by show _=_; exact tSame_on HL.out HA.out
    go_wp2_with fail
    go_ret
    exact⟨by rw [HR.out]; rfl,HN.out⟩
 ·have HR:=hZq (tSame_len hl)
  have t1:((t.length:Int) != (s.length:Int))=true:=by simp; omega
  clear hl
  go_enter Tryz.func73,Tryz.ntmps73
  go_wp2_with fail
  go_ret
  exact⟨by rw [HR.out]; rfl,Below.refl _ _⟩
end
end Go.Proofs.YtmpigdokghngiaaGreat
