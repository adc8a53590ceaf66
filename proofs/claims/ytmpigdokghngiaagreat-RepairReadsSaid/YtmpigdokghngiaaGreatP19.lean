/-
 TEXTS OF THE PROOF, one behind the other: FraRput.
-/
import Derived.Test.YtmpigdokghngiaaGreatP05
import Derived.Test.YtmpigdokghngiaaGreatP18
import Derived.Test.YtmpigdokghngiaaGreatP07
import Derived.Test.YtmpigdokghngiaaGreatP02
import Derived.Test.YtmpigdokghngiaaGreatP12
import Derived.Deep.RegionLaw

set_option maxHeartbeats 12800000
set_option maxRecDepth 100000

namespace Go.Proofs.YtmpigdokghngiaaGreat
open Go.RowKit

attribute [local go_sem] ByteArray.mk_append_mk

theorem rplain_4 {w:World} {ta:Option Addr} {tc:Nat}  (n:Nat) (hn:n < 9223372036854775808)  :
  Calls Tryz.prog 55 #[.agg #[.int .i64 4,.int .i64 n,.bool false,.string ⟨#[]⟩,.int .i64 0,.int .i64 0,.int .i64 0,.string ⟨#[]⟩,.int .u64 0,.slice ta 0 tc]] w fun e w' => e=.returned (.string ⟨(frPlain ⟨4,n,false,[],Val.zero,0,[]⟩).toArray⟩)∧Below w.heap.size w w':=by
 have HP:=hZq (rput_any n (by omega))
 have hvl:=vput_len_le n
 have hz0:(0:Int)≤n:=by omega
 have e4:IntKind.u64.wrap (n:Int)=n:=by rw [IntKind.wrap_u64]; omega
 have e1:IntKind.u8.wrap 4=4:=by decide
 have hcv:=fun w B => run_convert_one (P:=Tryz.prog) w 118 5 9 Tryz.underlying118 Tryz.underlying5 Tryz.underlying9 B (u8of 4) 4 (by decide)
 obtain⟨hd,hhd⟩ : ∃ hd,hd=[u8of 4]:=⟨_,rfl⟩
 rw [← hhd] at hcv
 have hdl:hd.length≤1:=by rw [hhd]; simp
 obtain⟨vn,hvn⟩ : ∃ vn,vput n=vn:=⟨_,rfl⟩
 rw [hvn] at HP hvl
 have HR:Hid (frPlain ⟨4,n,false,[],Val.zero,0,[]⟩=hd ++ vn):=hZq (by unfold frPlain frBody; rw [hhd]; simp [hvn])
 clear hhd hvn hn
 rw [HR.out]
 clear HR
 have hbig:¬ 9223372036854775807 < hd.length+vn.length:=by omega
 obtain⟨FB,HB⟩:=ent1 w (.cells #[.int .i64 4,.int .i64 n,.bool false,.string ⟨#[]⟩,.int .i64 0,.int .i64 0,.int .i64 0,.string ⟨#[]⟩,.int .u64 0,.slice ta 0 tc] 56)
 go_enter Tryz.func55,Tryz.ntmps55
 have FBo:=blk10 FB.out
 go_wp2_with fail
 clear FBo
 generalize w.alloc (.cells #[.int .i64 4,.int .i64 n,.bool false,.string ⟨#[]⟩,.int .i64 0,.int .i64 0,.int .i64 0,.string ⟨#[]⟩,.int .u64 0,.slice ta 0 tc] 56)=w2 at FB HB ⊢
 obtain⟨BS,hBS⟩ : ∃ BS:List (Nat × List Value),BS=[(w.heap.size,[.int .i64 4,.int .i64 n,.bool false,.string ⟨#[]⟩,.int .i64 0,.int .i64 0,.int .i64 0,.string ⟨#[]⟩,.int .u64 0,.slice ta 0 tc])]:=⟨_,rfl⟩
 have D0:=hZq (show heldB w2 BS from by rw [hBS]; exact heldB_cons (cellsAt_block FB.out) (heldB_nil _))
 have hL:=heldB_at (b:=w.heap.size) (vs:=[.int .i64 4,.int .i64 n,.bool false,.string ⟨#[]⟩,.int .i64 0,.int .i64 0,.int .i64 0,.string ⟨#[]⟩,.int .u64 0,.slice ta 0 tc]) (bs:=BS) (by rw [hBS]; simp)
 have hq0:=hL 0 _ rfl
 have hq1:=hL 1 _ rfl
 have hq2:=hL 2 _ rfl
 have hq3:=hL 3 _ rfl
 have hq4:=hL 4 _ rfl
 have hq5:=hL 5 _ rfl
 have hq6:=hL 6 _ rfl
 have hq7:=hL 7 _ rfl
 have hq8:=hL 8 _ rfl
 have hq9:=hL 9 _ rfl
 clear hL
 clear hBS
 have K0:Hid (Below w2.heap.size w2 w2.drew):=hZq (Below.refl _ _).drew
 refine wp_region_held_drew (S:=(fun X => heldB X BS)) (by kernel_rfl) ?_ (fun hHeld => ?_)
 ·exact heldB_up K0.out D0.out
 generalize w2.drew=z0 at K0 hHeld ⊢
 refine tkZ 0 ?_
 refine tkZ 1 ?_
 refine tkZ 2 ?_
 refine tkZ 5 ?_
 refine tkZ 6 ?_
 refine tkZ 7 ?_
 refine wpAnyH_ready (rs:=[3,8]) (by as_aux_lemma => kernel_rfl) (by simp) ?_
 refine AllReadyH.cons rfl (fun Kx hK => ?_) (AllReadyH.cons rfl (fun Kx hK => ?_) (AllReadyH.nil))
 ·go_simp
  refine hK.out _ _ ?_ (fun hHeld2 => ?_)
  ·exact heldB_up (below2Z K0.out (bl_newZ _ _)) D0.out
  clear hK Kx hHeld
  have hHeld:=hHeld2
  clear hHeld2
  try simp only [Act.put,List.setIfInBounds_toArray,List.set_cons_zero,List.set_cons_succ]
  have bz1:=bl_newZ z0 (.cells #[.int .u8 4] 5)
  have K1:=hZq (below2Z K0.out bz1)
  have D1:=hZq (heldB_up K1.out D0.out)
  have nz1:=hZq ((MapKept.heap_alloc z0 (.cells #[.int .u8 4] 5)).1)
  have hB1:w2.heap.size≤z0.heap.size:=(K0.out).size
  clear bz1
  generalize z0.alloc (.cells #[.int .u8 4] 5)=z1 at K1 D1 nz1 hHeld ⊢
  generalize z0.heap.size=B1 at nz1 hB1  ⊢
  have hcx:=hcv _ _ (cell_of_row _ _ 0 _ _ (0,0) nz1.out)
  refine wpAnyH_ready (rs:=[4,8]) (by as_aux_lemma => kernel_rfl) (by simp) ?_
  refine AllReadyH.cons rfl (fun Kx hK => ?_) (AllReadyH.cons rfl (fun Kx hK => ?_) (AllReadyH.nil))
  ·go_simp
   refine hK.out _ _ ?_ (fun hHeld2 => ?_)
   ·exact heldB_up K1.out D0.out
   clear hK Kx hHeld hcx
   have hHeld:=hHeld2
   clear hHeld2
   try simp only [Act.put,List.setIfInBounds_toArray,List.set_cons_zero,List.set_cons_succ]
   refine wpAnyH_ready (rs:=[8]) (by as_aux_lemma => kernel_rfl) (by simp) ?_
   refine AllReadyH.cons rfl (fun Kx hK => ?_) AllReadyH.nil
   go_simp
   refine (HP.out _).mono ?_
   rintro e z3 ⟨rfl,bz3⟩
   have K3:=hZq (below2Z K1.out bz3)
   have D3:=hZq (heldB_up K3.out D0.out)
   replace nz1:=hZq (((bz3).block _ (Array.getElem?_eq_some_iff.1 (nz1.out)).1).trans (nz1.out))
   clear bz3
   go_wp2_with fail
   refine hK.out _ _ ?_ (fun hHeld2 => ?_)
   ·exact D3.out
   clear hK Kx hHeld
   have hHeld:=hHeld2
   clear hHeld2
   try simp only [Act.put,List.setIfInBounds_toArray,List.set_cons_zero,List.set_cons_succ]
   refine tkZ 9 ?_
   refine tkZ 10 ?_
   refine wpAnyH_done (by kernel_rfl) ?_ _
   clear D0
   replace FB:=hZq (upQ FB.out (K3.out))
   replace HB:=hZq (below2Z HB.out (K3.out))
   have FBo:=blk10 FB.out
   go_wp2_with fail
   clear FBo
   go_ret
   exact⟨rfl,HB.out⟩
  ·go_simp
   refine (HP.out _).mono ?_
   rintro e z4 ⟨rfl,bz4⟩
   have K4:=hZq (below2Z K1.out bz4)
   have D4:=hZq (heldB_up K4.out D0.out)
   replace nz1:=hZq (((bz4).block _ (Array.getElem?_eq_some_iff.1 (nz1.out)).1).trans (nz1.out))
   clear bz4
   go_wp2_with fail
   refine hK.out _ _ ?_ (fun hHeld2 => ?_)
   ·exact D4.out
   clear hK Kx hHeld
   have hHeld:=hHeld2
   clear hHeld2
   try simp only [Act.put,List.setIfInBounds_toArray,List.set_cons_zero,List.set_cons_succ]
   have hcx:=hcv _ _ (cell_of_row _ _ 0 _ _ (0,0) nz1.out)
   refine wpAnyH_ready (rs:=[4]) (by as_aux_lemma => kernel_rfl) (by simp) ?_
   refine AllReadyH.cons rfl (fun Kx hK => ?_) AllReadyH.nil
   go_simp
   refine hK.out _ _ ?_ (fun hHeld2 => ?_)
   ·exact heldB_up K4.out D0.out
   clear hK Kx hHeld hcx
   have hHeld:=hHeld2
   clear hHeld2
   try simp only [Act.put,List.setIfInBounds_toArray,List.set_cons_zero,List.set_cons_succ]
   refine tkZ 9 ?_
   refine tkZ 10 ?_
   refine wpAnyH_done (by kernel_rfl) ?_ _
   clear D0
   replace FB:=hZq (upQ FB.out (K4.out))
   replace HB:=hZq (below2Z HB.out (K4.out))
   have FBo:=blk10 FB.out
   go_wp2_with fail
   clear FBo
   go_ret
   exact⟨rfl,HB.out⟩
 ·go_simp
  refine (HP.out _).mono ?_
  rintro e z6 ⟨rfl,bz6⟩
  have K6:=hZq (below2Z K0.out bz6)
  have D6:=hZq (heldB_up K6.out D0.out)
  clear bz6
  go_wp2_with fail
  refine hK.out _ _ ?_ (fun hHeld2 => ?_)
  ·exact D6.out
  clear hK Kx hHeld
  have hHeld:=hHeld2
  clear hHeld2
  try simp only [Act.put,List.setIfInBounds_toArray,List.set_cons_zero,List.set_cons_succ]
  refine wpAnyH_ready (rs:=[3]) (by as_aux_lemma => kernel_rfl) (by simp) ?_
  refine AllReadyH.cons rfl (fun Kx hK => ?_) AllReadyH.nil
  go_simp
  refine hK.out _ _ ?_ (fun hHeld2 => ?_)
  ·exact heldB_up (below2Z K6.out (bl_newZ _ _)) D0.out
  clear hK Kx hHeld
  have hHeld:=hHeld2
  clear hHeld2
  try simp only [Act.put,List.setIfInBounds_toArray,List.set_cons_zero,List.set_cons_succ]
  have bz7:=bl_newZ z6 (.cells #[.int .u8 4] 5)
  have K7:=hZq (below2Z K6.out bz7)
  have D7:=hZq (heldB_up K7.out D0.out)
  have nz7:=hZq ((MapKept.heap_alloc z6 (.cells #[.int .u8 4] 5)).1)
  have hB7:w2.heap.size≤z6.heap.size:=(K6.out).size
  clear bz7
  generalize z6.alloc (.cells #[.int .u8 4] 5)=z7 at K7 D7 nz7 hHeld ⊢
  generalize z6.heap.size=B7 at nz7 hB7  ⊢
  have hcx:=hcv _ _ (cell_of_row _ _ 0 _ _ (0,0) nz7.out)
  refine wpAnyH_ready (rs:=[4]) (by as_aux_lemma => kernel_rfl) (by simp) ?_
  refine AllReadyH.cons rfl (fun Kx hK => ?_) AllReadyH.nil
  go_simp
  refine hK.out _ _ ?_ (fun hHeld2 => ?_)
  ·exact heldB_up K7.out D0.out
  clear hK Kx hHeld hcx
  have hHeld:=hHeld2
  clear hHeld2
  try simp only [Act.put,List.setIfInBounds_toArray,List.set_cons_zero,List.set_cons_succ]
  refine tkZ 9 ?_
  refine tkZ 10 ?_
  refine wpAnyH_done (by kernel_rfl) ?_ _
  clear D0
  replace FB:=hZq (upQ FB.out (K7.out))
  replace HB:=hZq (below2Z HB.out (K7.out))
  have FBo:=blk10 FB.out
  go_wp2_with fail
  clear FBo
  go_ret
  exact⟨rfl,HB.out⟩

theorem rplain_1off {w:World} {ta:Option Addr} {tc:Nat} {c:List UInt8} (n:Nat) (hn:n < 9223372036854775808) (hc:idIs c=true) :
  Calls Tryz.prog 55 #[.agg #[.int .i64 1,.int .i64 n,.bool false,.string ⟨c.toArray⟩,.int .i64 0,.int .i64 0,.int .i64 0,.string ⟨#[]⟩,.int .u64 0,.slice ta 0 tc]] w fun e w' => e=.returned (.string ⟨(frPlain ⟨1,n,false,c,Val.zero,0,[]⟩).toArray⟩)∧Below w.heap.size w w':=by
 obtain⟨pc,hpc⟩ : ∃ pc,vput c.length ++ c=pc:=⟨_,rfl⟩
 have h2:=idPut_lenS c
 have h1:idPut c=(pc,true):=by unfold idPut; rw [if_pos hc,hpc]
 rw [h1] at h2
 simp only at h2
 have HPC:=hZq h1
 have hcl:=(idIs_parts hc).2.1
 have hcl':c.length≤4294967296:=by omega
 clear hpc h1 hc hcl
 have HP:=hZq (rput_any n (by omega))
 have hvl:=vput_len_le n
 have hz0:(0:Int)≤n:=by omega
 have e4:IntKind.u64.wrap (n:Int)=n:=by rw [IntKind.wrap_u64]; omega
 have e1:IntKind.u8.wrap 1=1:=by decide
 have hcv:=fun w B => run_convert_one (P:=Tryz.prog) w 118 5 9 Tryz.underlying118 Tryz.underlying5 Tryz.underlying9 B (u8of 1) 1 (by decide)
 obtain⟨hd,hhd⟩ : ∃ hd,hd=[u8of 1]:=⟨_,rfl⟩
 rw [← hhd] at hcv
 have hdl:hd.length≤1:=by rw [hhd]; simp
 obtain⟨vn,hvn⟩ : ∃ vn,vput n=vn:=⟨_,rfl⟩
 rw [hvn] at HP hvl
 have HR:Hid (frPlain ⟨1,n,false,c,Val.zero,0,[]⟩=hd ++ (vn ++ (0 :: pc))):=hZq (by unfold frPlain frBody; rw [hhd]; simp [hvn,HPC.out])
 clear hhd hvn hn
 rw [HR.out]
 clear HR
 have hbig:¬ 9223372036854775807 < hd.length+vn.length:=by omega
 obtain⟨FB,HB⟩:=ent1 w (.cells #[.int .i64 1,.int .i64 n,.bool false,.string ⟨c.toArray⟩,.int .i64 0,.int .i64 0,.int .i64 0,.string ⟨#[]⟩,.int .u64 0,.slice ta 0 tc] 56)
 go_enter Tryz.func55,Tryz.ntmps55
 have FBo:=blk10 FB.out
 go_wp2_with fail
 clear FBo
 generalize w.alloc (.cells #[.int .i64 1,.int .i64 n,.bool false,.string ⟨c.toArray⟩,.int .i64 0,.int .i64 0,.int .i64 0,.string ⟨#[]⟩,.int .u64 0,.slice ta 0 tc] 56)=w2 at FB HB ⊢
 obtain⟨BS,hBS⟩ : ∃ BS:List (Nat × List Value),BS=[(w.heap.size,[.int .i64 1,.int .i64 n,.bool false,.string ⟨c.toArray⟩,.int .i64 0,.int .i64 0,.int .i64 0,.string ⟨#[]⟩,.int .u64 0,.slice ta 0 tc])]:=⟨_,rfl⟩
 have D0:=hZq (show heldB w2 BS from by rw [hBS]; exact heldB_cons (cellsAt_block FB.out) (heldB_nil _))
 have hL:=heldB_at (b:=w.heap.size) (vs:=[.int .i64 1,.int .i64 n,.bool false,.string ⟨c.toArray⟩,.int .i64 0,.int .i64 0,.int .i64 0,.string ⟨#[]⟩,.int .u64 0,.slice ta 0 tc]) (bs:=BS) (by rw [hBS]; simp)
 have hq0:=hL 0 _ rfl
 have hq1:=hL 1 _ rfl
 have hq2:=hL 2 _ rfl
 have hq3:=hL 3 _ rfl
 have hq4:=hL 4 _ rfl
 have hq5:=hL 5 _ rfl
 have hq6:=hL 6 _ rfl
 have hq7:=hL 7 _ rfl
 have hq8:=hL 8 _ rfl
 have hq9:=hL 9 _ rfl
 clear hL
 clear hBS
 have K0:Hid (Below w2.heap.size w2 w2.drew):=hZq (Below.refl _ _).drew
 refine wp_region_held_drew (S:=(fun X => heldB X BS)) (by kernel_rfl) ?_ (fun hHeld => ?_)
 ·exact heldB_up K0.out D0.out
 generalize w2.drew=z0 at K0 hHeld ⊢
 refine tkZ 0 ?_
 refine tkZ 1 ?_
 refine tkZ 2 ?_
 refine tkZ 5 ?_
 refine tkZ 6 ?_
 refine tkZ 7 ?_
 refine wpAnyH_ready (rs:=[3,8]) (by as_aux_lemma => kernel_rfl) (by simp) ?_
 refine AllReadyH.cons rfl (fun Kx hK => ?_) (AllReadyH.cons rfl (fun Kx hK => ?_) (AllReadyH.nil))
 ·go_simp
  refine hK.out _ _ ?_ (fun hHeld2 => ?_)
  ·exact heldB_up (below2Z K0.out (bl_newZ _ _)) D0.out
  clear hK Kx hHeld
  have hHeld:=hHeld2
  clear hHeld2
  try simp only [Act.put,List.setIfInBounds_toArray,List.set_cons_zero,List.set_cons_succ]
  have bz1:=bl_newZ z0 (.cells #[.int .u8 1] 5)
  have K1:=hZq (below2Z K0.out bz1)
  have D1:=hZq (heldB_up K1.out D0.out)
  have nz1:=hZq ((MapKept.heap_alloc z0 (.cells #[.int .u8 1] 5)).1)
  have hB1:w2.heap.size≤z0.heap.size:=(K0.out).size
  clear bz1
  generalize z0.alloc (.cells #[.int .u8 1] 5)=z1 at K1 D1 nz1 hHeld ⊢
  generalize z0.heap.size=B1 at nz1 hB1  ⊢
  have hcx:=hcv _ _ (cell_of_row _ _ 0 _ _ (0,0) nz1.out)
  refine wpAnyH_ready (rs:=[4,8]) (by as_aux_lemma => kernel_rfl) (by simp) ?_
  refine AllReadyH.cons rfl (fun Kx hK => ?_) (AllReadyH.cons rfl (fun Kx hK => ?_) (AllReadyH.nil))
  ·go_simp
   refine hK.out _ _ ?_ (fun hHeld2 => ?_)
   ·exact heldB_up K1.out D0.out
   clear hK Kx hHeld hcx
   have hHeld:=hHeld2
   clear hHeld2
   try simp only [Act.put,List.setIfInBounds_toArray,List.set_cons_zero,List.set_cons_succ]
   refine wpAnyH_ready (rs:=[8]) (by as_aux_lemma => kernel_rfl) (by simp) ?_
   refine AllReadyH.cons rfl (fun Kx hK => ?_) AllReadyH.nil
   go_simp
   refine (HP.out _).mono ?_
   rintro e z3 ⟨rfl,bz3⟩
   have K3:=hZq (below2Z K1.out bz3)
   have D3:=hZq (heldB_up K3.out D0.out)
   replace nz1:=hZq (((bz3).block _ (Array.getElem?_eq_some_iff.1 (nz1.out)).1).trans (nz1.out))
   clear bz3
   go_wp2_with fail
   refine hK.out _ _ ?_ (fun hHeld2 => ?_)
   ·exact D3.out
   clear hK Kx hHeld
   have hHeld:=hHeld2
   clear hHeld2
   try simp only [Act.put,List.setIfInBounds_toArray,List.set_cons_zero,List.set_cons_succ]
   refine tkZ 9 ?_
   refine tkZ 10 ?_
   refine wpAnyH_done (by kernel_rfl) ?_ _
   clear D0
   replace FB:=hZq (upQ FB.out (K3.out))
   replace HB:=hZq (below2Z HB.out (K3.out))
   have FBo:=blk10 FB.out
   go_wp2_with fail
   clear FBo
   refine (ridput_eq c hcl' HPC _).mono ?_
   rintro e w801 ⟨rfl,b801⟩
   replace FB:=hZq (upQ FB.out b801)
   replace HB:=hZq (below2Z HB.out b801)
   clear b801
   have FBo:=blk10 FB.out
   go_wp2_with fail
   clear FBo
   go_ret
   exact⟨rfl,HB.out⟩
  ·go_simp
   refine (HP.out _).mono ?_
   rintro e z4 ⟨rfl,bz4⟩
   have K4:=hZq (below2Z K1.out bz4)
   have D4:=hZq (heldB_up K4.out D0.out)
   replace nz1:=hZq (((bz4).block _ (Array.getElem?_eq_some_iff.1 (nz1.out)).1).trans (nz1.out))
   clear bz4
   go_wp2_with fail
   refine hK.out _ _ ?_ (fun hHeld2 => ?_)
   ·exact D4.out
   clear hK Kx hHeld
   have hHeld:=hHeld2
   clear hHeld2
   try simp only [Act.put,List.setIfInBounds_toArray,List.set_cons_zero,List.set_cons_succ]
   have hcx:=hcv _ _ (cell_of_row _ _ 0 _ _ (0,0) nz1.out)
   refine wpAnyH_ready (rs:=[4]) (by as_aux_lemma => kernel_rfl) (by simp) ?_
   refine AllReadyH.cons rfl (fun Kx hK => ?_) AllReadyH.nil
   go_simp
   refine hK.out _ _ ?_ (fun hHeld2 => ?_)
   ·exact heldB_up K4.out D0.out
   clear hK Kx hHeld hcx
   have hHeld:=hHeld2
   clear hHeld2
   try simp only [Act.put,List.setIfInBounds_toArray,List.set_cons_zero,List.set_cons_succ]
   refine tkZ 9 ?_
   refine tkZ 10 ?_
   refine wpAnyH_done (by kernel_rfl) ?_ _
   clear D0
   replace FB:=hZq (upQ FB.out (K4.out))
   replace HB:=hZq (below2Z HB.out (K4.out))
   have FBo:=blk10 FB.out
   go_wp2_with fail
   clear FBo
   refine (ridput_eq c hcl' HPC _).mono ?_
   rintro e w801 ⟨rfl,b801⟩
   replace FB:=hZq (upQ FB.out b801)
   replace HB:=hZq (below2Z HB.out b801)
   clear b801
   have FBo:=blk10 FB.out
   go_wp2_with fail
   clear FBo
   go_ret
   exact⟨rfl,HB.out⟩
 ·go_simp
  refine (HP.out _).mono ?_
  rintro e z6 ⟨rfl,bz6⟩
  have K6:=hZq (below2Z K0.out bz6)
  have D6:=hZq (heldB_up K6.out D0.out)
  clear bz6
  go_wp2_with fail
  refine hK.out _ _ ?_ (fun hHeld2 => ?_)
  ·exact D6.out
  clear hK Kx hHeld
  have hHeld:=hHeld2
  clear hHeld2
  try simp only [Act.put,List.setIfInBounds_toArray,List.set_cons_zero,List.set_cons_succ]
  refine wpAnyH_ready (rs:=[3]) (by as_aux_lemma => kernel_rfl) (by simp) ?_
  refine AllReadyH.cons rfl (fun Kx hK => ?_) AllReadyH.nil
  go_simp
  refine hK.out _ _ ?_ (fun hHeld2 => ?_)
  ·exact heldB_up (below2Z K6.out (bl_newZ _ _)) D0.out
  clear hK Kx hHeld
  have hHeld:=hHeld2
  clear hHeld2
  try simp only [Act.put,List.setIfInBounds_toArray,List.set_cons_zero,List.set_cons_succ]
  have bz7:=bl_newZ z6 (.cells #[.int .u8 1] 5)
  have K7:=hZq (below2Z K6.out bz7)
  have D7:=hZq (heldB_up K7.out D0.out)
  have nz7:=hZq ((MapKept.heap_alloc z6 (.cells #[.int .u8 1] 5)).1)
  have hB7:w2.heap.size≤z6.heap.size:=(K6.out).size
  clear bz7
  generalize z6.alloc (.cells #[.int .u8 1] 5)=z7 at K7 D7 nz7 hHeld ⊢
  generalize z6.heap.size=B7 at nz7 hB7  ⊢
  have hcx:=hcv _ _ (cell_of_row _ _ 0 _ _ (0,0) nz7.out)
  refine wpAnyH_ready (rs:=[4]) (by as_aux_lemma => kernel_rfl) (by simp) ?_
  refine AllReadyH.cons rfl (fun Kx hK => ?_) AllReadyH.nil
  go_simp
  refine hK.out _ _ ?_ (fun hHeld2 => ?_)
  ·exact heldB_up K7.out D0.out
  clear hK Kx hHeld hcx
  have hHeld:=hHeld2
  clear hHeld2
  try simp only [Act.put,List.setIfInBounds_toArray,List.set_cons_zero,List.set_cons_succ]
  refine tkZ 9 ?_
  refine tkZ 10 ?_
  refine wpAnyH_done (by kernel_rfl) ?_ _
  clear D0
  replace FB:=hZq (upQ FB.out (K7.out))
  replace HB:=hZq (below2Z HB.out (K7.out))
  have FBo:=blk10 FB.out
  go_wp2_with fail
  clear FBo
  refine (ridput_eq c hcl' HPC _).mono ?_
  rintro e w801 ⟨rfl,b801⟩
  replace FB:=hZq (upQ FB.out b801)
  replace HB:=hZq (below2Z HB.out b801)
  clear b801
  have FBo:=blk10 FB.out
  go_wp2_with fail
  clear FBo
  go_ret
  exact⟨rfl,HB.out⟩

theorem rplain_1on {w:World} {ta:Option Addr} {tc:Nat} {c st:List UInt8} {sh pr si:Int} (n:Nat) (hn:n < 9223372036854775808) (hc:idIs c=true) (hm:vaMay ⟨sh,pr,si,st⟩=true) :
  Calls Tryz.prog 55 #[.agg #[.int .i64 1,.int .i64 n,.bool true,.string ⟨c.toArray⟩,.int .i64 sh,.int .i64 pr,.int .i64 si,.string ⟨st.toArray⟩,.int .u64 0,.slice ta 0 tc]] w fun e w' => e=.returned (.string ⟨(frPlain ⟨1,n,true,c,⟨sh,pr,si,st⟩,0,[]⟩).toArray⟩)∧Below w.heap.size w w':=by
 obtain⟨pc,hpc⟩ : ∃ pc,vput c.length ++ c=pc:=⟨_,rfl⟩
 have h2:=idPut_lenS c
 have h1:idPut c=(pc,true):=by unfold idPut; rw [if_pos hc,hpc]
 rw [h1] at h2
 simp only at h2
 have HPC:=hZq h1
 have hcl:=(idIs_parts hc).2.1
 have hcl':c.length≤4294967296:=by omega
 clear hpc h1 hc hcl
 obtain⟨vb,hvb⟩ : ∃ vb,vaBytes ⟨sh,pr,si,st⟩=vb:=⟨_,rfl⟩
 have hvbl:vb.length≤100:=by
  rw [← hvb]
  obtain⟨_,_,_,_,g5,g6,g7⟩:=vaMay_parts hm
  unfold vaBytes
  have a1:=vput_len_le si.toNat
  have a2:=vput_len_le st.length
  simp only [List.length_append,List.length_cons,List.length_nil] at g7 ⊢
  omega
 have HVP:Hid (vaPut ⟨sh,pr,si,st⟩=vb):=hZq (by unfold vaPut; rw [if_pos hm,hvb])
 have hst:st.length≤4294967296:=by
  have hm2:=hm
  unfold vaMay stOk at hm2
  simp only [Bool.and_eq_true,decide_eq_true_eq] at hm2
  have h3:=hm2.2.1
  omega
 have HVM:=hZq hm
 clear hm
 have HP:=hZq (rput_any n (by omega))
 have hvl:=vput_len_le n
 have hz0:(0:Int)≤n:=by omega
 have e4:IntKind.u64.wrap (n:Int)=n:=by rw [IntKind.wrap_u64]; omega
 have e1:IntKind.u8.wrap 1=1:=by decide
 have hcv:=fun w B => run_convert_one (P:=Tryz.prog) w 118 5 9 Tryz.underlying118 Tryz.underlying5 Tryz.underlying9 B (u8of 1) 1 (by decide)
 obtain⟨hd,hhd⟩ : ∃ hd,hd=[u8of 1]:=⟨_,rfl⟩
 rw [← hhd] at hcv
 have hdl:hd.length≤1:=by rw [hhd]; simp
 obtain⟨vn,hvn⟩ : ∃ vn,vput n=vn:=⟨_,rfl⟩
 rw [hvn] at HP hvl
 have HR:Hid (frPlain ⟨1,n,true,c,⟨sh,pr,si,st⟩,0,[]⟩=hd ++ (vn ++ (1 :: (pc ++ vb)))):=hZq (by unfold frPlain frBody; rw [hhd]; simp [hvn,HPC.out,hvb])
 clear hhd hvn hn
 rw [HR.out]
 clear HR
 have hbig:¬ 9223372036854775807 < hd.length+vn.length:=by omega
 obtain⟨FB,HB⟩:=ent1 w (.cells #[.int .i64 1,.int .i64 n,.bool true,.string ⟨c.toArray⟩,.int .i64 sh,.int .i64 pr,.int .i64 si,.string ⟨st.toArray⟩,.int .u64 0,.slice ta 0 tc] 56)
 go_enter Tryz.func55,Tryz.ntmps55
 have FBo:=blk10 FB.out
 go_wp2_with fail
 clear FBo
 generalize w.alloc (.cells #[.int .i64 1,.int .i64 n,.bool true,.string ⟨c.toArray⟩,.int .i64 sh,.int .i64 pr,.int .i64 si,.string ⟨st.toArray⟩,.int .u64 0,.slice ta 0 tc] 56)=w2 at FB HB ⊢
 obtain⟨BS,hBS⟩ : ∃ BS:List (Nat × List Value),BS=[(w.heap.size,[.int .i64 1,.int .i64 n,.bool true,.string ⟨c.toArray⟩,.int .i64 sh,.int .i64 pr,.int .i64 si,.string ⟨st.toArray⟩,.int .u64 0,.slice ta 0 tc])]:=⟨_,rfl⟩
 have D0:=hZq (show heldB w2 BS from by rw [hBS]; exact heldB_cons (cellsAt_block FB.out) (heldB_nil _))
 have hL:=heldB_at (b:=w.heap.size) (vs:=[.int .i64 1,.int .i64 n,.bool true,.string ⟨c.toArray⟩,.int .i64 sh,.int .i64 pr,.int .i64 si,.string ⟨st.toArray⟩,.int .u64 0,.slice ta 0 tc]) (bs:=BS) (by rw [hBS]; simp)
 have hq0:=hL 0 _ rfl
 have hq1:=hL 1 _ rfl
 have hq2:=hL 2 _ rfl
 have hq3:=hL 3 _ rfl
 have hq4:=hL 4 _ rfl
 have hq5:=hL 5 _ rfl
 have hq6:=hL 6 _ rfl
 have hq7:=hL 7 _ rfl
 have hq8:=hL 8 _ rfl
 have hq9:=hL 9 _ rfl
 clear hL
 clear hBS
 have K0:Hid (Below w2.heap.size w2 w2.drew):=hZq (Below.refl _ _).drew
 refine wp_region_held_drew (S:=(fun X => heldB X BS)) (by kernel_rfl) ?_ (fun hHeld => ?_)
 ·exact heldB_up K0.out D0.out
 generalize w2.drew=z0 at K0 hHeld ⊢
 refine tkZ 0 ?_
 refine tkZ 1 ?_
 refine tkZ 2 ?_
 refine tkZ 5 ?_
 refine tkZ 6 ?_
 refine tkZ 7 ?_
 refine wpAnyH_ready (rs:=[3,8]) (by as_aux_lemma => kernel_rfl) (by simp) ?_
 refine AllReadyH.cons rfl (fun Kx hK => ?_) (AllReadyH.cons rfl (fun Kx hK => ?_) (AllReadyH.nil))
 ·go_simp
  refine hK.out _ _ ?_ (fun hHeld2 => ?_)
  ·exact heldB_up (below2Z K0.out (bl_newZ _ _)) D0.out
  clear hK Kx hHeld
  have hHeld:=hHeld2
  clear hHeld2
  try simp only [Act.put,List.setIfInBounds_toArray,List.set_cons_zero,List.set_cons_succ]
  have bz1:=bl_newZ z0 (.cells #[.int .u8 1] 5)
  have K1:=hZq (below2Z K0.out bz1)
  have D1:=hZq (heldB_up K1.out D0.out)
  have nz1:=hZq ((MapKept.heap_alloc z0 (.cells #[.int .u8 1] 5)).1)
  have hB1:w2.heap.size≤z0.heap.size:=(K0.out).size
  clear bz1
  generalize z0.alloc (.cells #[.int .u8 1] 5)=z1 at K1 D1 nz1 hHeld ⊢
  generalize z0.heap.size=B1 at nz1 hB1  ⊢
  have hcx:=hcv _ _ (cell_of_row _ _ 0 _ _ (0,0) nz1.out)
  refine wpAnyH_ready (rs:=[4,8]) (by as_aux_lemma => kernel_rfl) (by simp) ?_
  refine AllReadyH.cons rfl (fun Kx hK => ?_) (AllReadyH.cons rfl (fun Kx hK => ?_) (AllReadyH.nil))
  ·go_simp
   refine hK.out _ _ ?_ (fun hHeld2 => ?_)
   ·exact heldB_up K1.out D0.out
   clear hK Kx hHeld hcx
   have hHeld:=hHeld2
   clear hHeld2
   try simp only [Act.put,List.setIfInBounds_toArray,List.set_cons_zero,List.set_cons_succ]
   refine wpAnyH_ready (rs:=[8]) (by as_aux_lemma => kernel_rfl) (by simp) ?_
   refine AllReadyH.cons rfl (fun Kx hK => ?_) AllReadyH.nil
   go_simp
   refine (HP.out _).mono ?_
   rintro e z3 ⟨rfl,bz3⟩
   have K3:=hZq (below2Z K1.out bz3)
   have D3:=hZq (heldB_up K3.out D0.out)
   replace nz1:=hZq (((bz3).block _ (Array.getElem?_eq_some_iff.1 (nz1.out)).1).trans (nz1.out))
   clear bz3
   go_wp2_with fail
   refine hK.out _ _ ?_ (fun hHeld2 => ?_)
   ·exact D3.out
   clear hK Kx hHeld
   have hHeld:=hHeld2
   clear hHeld2
   try simp only [Act.put,List.setIfInBounds_toArray,List.set_cons_zero,List.set_cons_succ]
   refine tkZ 9 ?_
   refine tkZ 10 ?_
   refine wpAnyH_done (by kernel_rfl) ?_ _
   clear D0
   replace FB:=hZq (upQ FB.out (K3.out))
   replace HB:=hZq (below2Z HB.out (K3.out))
   have FBo:=blk10 FB.out
   go_wp2_with fail
   clear FBo
   refine (ridput_eq c hcl' HPC _).mono ?_
   rintro e w801 ⟨rfl,b801⟩
   replace FB:=hZq (upQ FB.out b801)
   replace HB:=hZq (below2Z HB.out b801)
   clear b801
   have FBo:=blk10 FB.out
   go_wp2_with fail
   clear FBo
   refine (rvaput_any sh pr si st hst HVP HVM _).mono ?_
   rintro e w802 ⟨rfl,b802⟩
   replace FB:=hZq (upQ FB.out b802)
   replace HB:=hZq (below2Z HB.out b802)
   clear b802
   have FBo:=blk10 FB.out
   go_wp2_with fail
   clear FBo
   go_ret
   exact⟨rfl,HB.out⟩
  ·go_simp
   refine (HP.out _).mono ?_
   rintro e z4 ⟨rfl,bz4⟩
   have K4:=hZq (below2Z K1.out bz4)
   have D4:=hZq (heldB_up K4.out D0.out)
   replace nz1:=hZq (((bz4).block _ (Array.getElem?_eq_some_iff.1 (nz1.out)).1).trans (nz1.out))
   clear bz4
   go_wp2_with fail
   refine hK.out _ _ ?_ (fun hHeld2 => ?_)
   ·exact D4.out
   clear hK Kx hHeld
   have hHeld:=hHeld2
   clear hHeld2
   try simp only [Act.put,List.setIfInBounds_toArray,List.set_cons_zero,List.set_cons_succ]
   have hcx:=hcv _ _ (cell_of_row _ _ 0 _ _ (0,0) nz1.out)
   refine wpAnyH_ready (rs:=[4]) (by as_aux_lemma => kernel_rfl) (by simp) ?_
   refine AllReadyH.cons rfl (fun Kx hK => ?_) AllReadyH.nil
   go_simp
   refine hK.out _ _ ?_ (fun hHeld2 => ?_)
   ·exact heldB_up K4.out D0.out
   clear hK Kx hHeld hcx
   have hHeld:=hHeld2
   clear hHeld2
   try simp only [Act.put,List.setIfInBounds_toArray,List.set_cons_zero,List.set_cons_succ]
   refine tkZ 9 ?_
   refine tkZ 10 ?_
   refine wpAnyH_done (by kernel_rfl) ?_ _
   clear D0
   replace FB:=hZq (upQ FB.out (K4.out))
   replace HB:=hZq (below2Z HB.out (K4.out))
   have FBo:=blk10 FB.out
   go_wp2_with fail
   clear FBo
   refine (ridput_eq c hcl' HPC _).mono ?_
   rintro e w801 ⟨rfl,b801⟩
   replace FB:=hZq (upQ FB.out b801)
   replace HB:=hZq (below2Z HB.out b801)
   clear b801
   have FBo:=blk10 FB.out
   go_wp2_with fail
   clear FBo
   refine (rvaput_any sh pr si st hst HVP HVM _).mono ?_
   rintro e w802 ⟨rfl,b802⟩
   replace FB:=hZq (upQ FB.out b802)
   replace HB:=hZq (below2Z HB.out b802)
   clear b802
   have FBo:=blk10 FB.out
   go_wp2_with fail
   clear FBo
   go_ret
   exact⟨rfl,HB.out⟩
 ·go_simp
  refine (HP.out _).mono ?_
  rintro e z6 ⟨rfl,bz6⟩
  have K6:=hZq (below2Z K0.out bz6)
  have D6:=hZq (heldB_up K6.out D0.out)
  clear bz6
  go_wp2_with fail
  refine hK.out _ _ ?_ (fun hHeld2 => ?_)
  ·exact D6.out
  clear hK Kx hHeld
  have hHeld:=hHeld2
  clear hHeld2
  try simp only [Act.put,List.setIfInBounds_toArray,List.set_cons_zero,List.set_cons_succ]
  refine wpAnyH_ready (rs:=[3]) (by as_aux_lemma => kernel_rfl) (by simp) ?_
  refine AllReadyH.cons rfl (fun Kx hK => ?_) AllReadyH.nil
  go_simp
  refine hK.out _ _ ?_ (fun hHeld2 => ?_)
  ·exact heldB_up (below2Z K6.out (bl_newZ _ _)) D0.out
  clear hK Kx hHeld
  have hHeld:=hHeld2
  clear hHeld2
  try simp only [Act.put,List.setIfInBounds_toArray,List.set_cons_zero,List.set_cons_succ]
  have bz7:=bl_newZ z6 (.cells #[.int .u8 1] 5)
  have K7:=hZq (below2Z K6.out bz7)
  have D7:=hZq (heldB_up K7.out D0.out)
  have nz7:=hZq ((MapKept.heap_alloc z6 (.cells #[.int .u8 1] 5)).1)
  have hB7:w2.heap.size≤z6.heap.size:=(K6.out).size
  clear bz7
  generalize z6.alloc (.cells #[.int .u8 1] 5)=z7 at K7 D7 nz7 hHeld ⊢
  generalize z6.heap.size=B7 at nz7 hB7  ⊢
  have hcx:=hcv _ _ (cell_of_row _ _ 0 _ _ (0,0) nz7.out)
  refine wpAnyH_ready (rs:=[4]) (by as_aux_lemma => kernel_rfl) (by simp) ?_
  refine AllReadyH.cons rfl (fun Kx hK => ?_) AllReadyH.nil
  go_simp
  refine hK.out _ _ ?_ (fun hHeld2 => ?_)
  ·exact heldB_up K7.out D0.out
  clear hK Kx hHeld hcx
  have hHeld:=hHeld2
  clear hHeld2
  try simp only [Act.put,List.setIfInBounds_toArray,List.set_cons_zero,List.set_cons_succ]
  refine tkZ 9 ?_
  refine tkZ 10 ?_
  refine wpAnyH_done (by kernel_rfl) ?_ _
  clear D0
  replace FB:=hZq (upQ FB.out (K7.out))
  replace HB:=hZq (below2Z HB.out (K7.out))
  have FBo:=blk10 FB.out
  go_wp2_with fail
  clear FBo
  refine (ridput_eq c hcl' HPC _).mono ?_
  rintro e w801 ⟨rfl,b801⟩
  replace FB:=hZq (upQ FB.out b801)
  replace HB:=hZq (below2Z HB.out b801)
  clear b801
  have FBo:=blk10 FB.out
  go_wp2_with fail
  clear FBo
  refine (rvaput_any sh pr si st hst HVP HVM _).mono ?_
  rintro e w802 ⟨rfl,b802⟩
  replace FB:=hZq (upQ FB.out b802)
  replace HB:=hZq (below2Z HB.out b802)
  clear b802
  have FBo:=blk10 FB.out
  go_wp2_with fail
  clear FBo
  go_ret
  exact⟨rfl,HB.out⟩

theorem rplain_3 {w:World} {v:Value} {tt:List Row} (n:Nat) (hn:n < 9223372036854775808) (hv:Tab w v tt) (hsh:Short tt) (hm:diMay tt=true) :
  Calls Tryz.prog 55 #[.agg #[.int .i64 3,.int .i64 n,.bool false,.string ⟨#[]⟩,.int .i64 0,.int .i64 0,.int .i64 0,.string ⟨#[]⟩,.int .u64 0,v]] w fun e w' => e=.returned (.string ⟨(frPlain ⟨3,n,false,[],Val.zero,0,tt⟩).toArray⟩)∧Below w.heap.size w w':=by
 obtain⟨pt,r3,h3⟩ : ∃ a b,diPut tt=(a,b):=⟨_,_,rfl⟩
 have hptl:pt.length≤1985:=by
  have:=frBody_len (f:=⟨3,0,false,[],Val.zero,0,tt⟩) ⟨by simp,by simp,by simp,by simp,by unfold frRest; simp [hm,vSame,Val.zero]⟩
  unfold frBody at this
  simpa [h3] using this
 have HPT:=hZq h3
 have HSH:=hZq hsh
 clear h3 hm hsh
 have HP:=hZq (rput_any n (by omega))
 have hvl:=vput_len_le n
 have hz0:(0:Int)≤n:=by omega
 have e4:IntKind.u64.wrap (n:Int)=n:=by rw [IntKind.wrap_u64]; omega
 have e1:IntKind.u8.wrap 3=3:=by decide
 have hcv:=fun w B => run_convert_one (P:=Tryz.prog) w 118 5 9 Tryz.underlying118 Tryz.underlying5 Tryz.underlying9 B (u8of 3) 3 (by decide)
 obtain⟨hd,hhd⟩ : ∃ hd,hd=[u8of 3]:=⟨_,rfl⟩
 rw [← hhd] at hcv
 have hdl:hd.length≤1:=by rw [hhd]; simp
 obtain⟨vn,hvn⟩ : ∃ vn,vput n=vn:=⟨_,rfl⟩
 rw [hvn] at HP hvl
 have HR:Hid (frPlain ⟨3,n,false,[],Val.zero,0,tt⟩=hd ++ (vn ++ pt)):=hZq (by unfold frPlain frBody; rw [hhd]; simp [hvn,HPT.out])
 clear hhd hvn hn
 rw [HR.out]
 clear HR
 have hbig:¬ 9223372036854775807 < hd.length+vn.length:=by omega
 obtain⟨FB,HB⟩:=ent1 w (.cells #[.int .i64 3,.int .i64 n,.bool false,.string ⟨#[]⟩,.int .i64 0,.int .i64 0,.int .i64 0,.string ⟨#[]⟩,.int .u64 0,v] 56)
 have V:=hZq (hv.later HB.out)
 clear hv
 go_enter Tryz.func55,Tryz.ntmps55
 have FBo:=blk10 FB.out
 go_wp2_with fail
 clear FBo
 generalize w.alloc (.cells #[.int .i64 3,.int .i64 n,.bool false,.string ⟨#[]⟩,.int .i64 0,.int .i64 0,.int .i64 0,.string ⟨#[]⟩,.int .u64 0,v] 56)=w2 at FB V HB ⊢
 obtain⟨BS,hBS⟩ : ∃ BS:List (Nat × List Value),BS=[(w.heap.size,[.int .i64 3,.int .i64 n,.bool false,.string ⟨#[]⟩,.int .i64 0,.int .i64 0,.int .i64 0,.string ⟨#[]⟩,.int .u64 0,v])]:=⟨_,rfl⟩
 have D0:=hZq (show heldB w2 BS from by rw [hBS]; exact heldB_cons (cellsAt_block FB.out) (heldB_nil _))
 have hL:=heldB_at (b:=w.heap.size) (vs:=[.int .i64 3,.int .i64 n,.bool false,.string ⟨#[]⟩,.int .i64 0,.int .i64 0,.int .i64 0,.string ⟨#[]⟩,.int .u64 0,v]) (bs:=BS) (by rw [hBS]; simp)
 have hq0:=hL 0 _ rfl
 have hq1:=hL 1 _ rfl
 have hq2:=hL 2 _ rfl
 have hq3:=hL 3 _ rfl
 have hq4:=hL 4 _ rfl
 have hq5:=hL 5 _ rfl
 have hq6:=hL 6 _ rfl
 have hq7:=hL 7 _ rfl
 have hq8:=hL 8 _ rfl
 have hq9:=hL 9 _ rfl
 clear hL
 clear hBS
 have K0:Hid (Below w2.heap.size w2 w2.drew):=hZq (Below.refl _ _).drew
 refine wp_region_held_drew (S:=(fun X => heldB X BS)) (by kernel_rfl) ?_ (fun hHeld => ?_)
 ·exact heldB_up K0.out D0.out
 generalize w2.drew=z0 at K0 hHeld ⊢
 refine tkZ 0 ?_
 refine tkZ 1 ?_
 refine tkZ 2 ?_
 refine tkZ 5 ?_
 refine tkZ 6 ?_
 refine tkZ 7 ?_
 refine wpAnyH_ready (rs:=[3,8]) (by as_aux_lemma => kernel_rfl) (by simp) ?_
 refine AllReadyH.cons rfl (fun Kx hK => ?_) (AllReadyH.cons rfl (fun Kx hK => ?_) (AllReadyH.nil))
 ·go_simp
  refine hK.out _ _ ?_ (fun hHeld2 => ?_)
  ·exact heldB_up (below2Z K0.out (bl_newZ _ _)) D0.out
  clear hK Kx hHeld
  have hHeld:=hHeld2
  clear hHeld2
  try simp only [Act.put,List.setIfInBounds_toArray,List.set_cons_zero,List.set_cons_succ]
  have bz1:=bl_newZ z0 (.cells #[.int .u8 3] 5)
  have K1:=hZq (below2Z K0.out bz1)
  have D1:=hZq (heldB_up K1.out D0.out)
  have nz1:=hZq ((MapKept.heap_alloc z0 (.cells #[.int .u8 3] 5)).1)
  have hB1:w2.heap.size≤z0.heap.size:=(K0.out).size
  clear bz1
  generalize z0.alloc (.cells #[.int .u8 3] 5)=z1 at K1 D1 nz1 hHeld ⊢
  generalize z0.heap.size=B1 at nz1 hB1  ⊢
  have hcx:=hcv _ _ (cell_of_row _ _ 0 _ _ (0,0) nz1.out)
  refine wpAnyH_ready (rs:=[4,8]) (by as_aux_lemma => kernel_rfl) (by simp) ?_
  refine AllReadyH.cons rfl (fun Kx hK => ?_) (AllReadyH.cons rfl (fun Kx hK => ?_) (AllReadyH.nil))
  ·go_simp
   refine hK.out _ _ ?_ (fun hHeld2 => ?_)
   ·exact heldB_up K1.out D0.out
   clear hK Kx hHeld hcx
   have hHeld:=hHeld2
   clear hHeld2
   try simp only [Act.put,List.setIfInBounds_toArray,List.set_cons_zero,List.set_cons_succ]
   refine wpAnyH_ready (rs:=[8]) (by as_aux_lemma => kernel_rfl) (by simp) ?_
   refine AllReadyH.cons rfl (fun Kx hK => ?_) AllReadyH.nil
   go_simp
   refine (HP.out _).mono ?_
   rintro e z3 ⟨rfl,bz3⟩
   have K3:=hZq (below2Z K1.out bz3)
   have D3:=hZq (heldB_up K3.out D0.out)
   replace nz1:=hZq (((bz3).block _ (Array.getElem?_eq_some_iff.1 (nz1.out)).1).trans (nz1.out))
   clear bz3
   go_wp2_with fail
   refine hK.out _ _ ?_ (fun hHeld2 => ?_)
   ·exact D3.out
   clear hK Kx hHeld
   have hHeld:=hHeld2
   clear hHeld2
   try simp only [Act.put,List.setIfInBounds_toArray,List.set_cons_zero,List.set_cons_succ]
   refine tkZ 9 ?_
   refine tkZ 10 ?_
   refine wpAnyH_done (by kernel_rfl) ?_ _
   clear D0
   replace FB:=hZq (upQ FB.out (K3.out))
   replace V:=hZq (V.out.later (K3.out))
   replace HB:=hZq (below2Z HB.out (K3.out))
   have FBo:=blk10 FB.out
   go_wp2_with fail
   clear FBo
   refine (rdiput_eq V.out HSH.out HPT).mono ?_
   rintro e w801 ⟨rfl,b801⟩
   replace FB:=hZq (upQ FB.out b801)
   replace V:=hZq (V.out.later b801)
   replace HB:=hZq (below2Z HB.out b801)
   clear b801
   have FBo:=blk10 FB.out
   go_wp2_with fail
   clear FBo
   go_ret
   exact⟨rfl,HB.out⟩
  ·go_simp
   refine (HP.out _).mono ?_
   rintro e z4 ⟨rfl,bz4⟩
   have K4:=hZq (below2Z K1.out bz4)
   have D4:=hZq (heldB_up K4.out D0.out)
   replace nz1:=hZq (((bz4).block _ (Array.getElem?_eq_some_iff.1 (nz1.out)).1).trans (nz1.out))
   clear bz4
   go_wp2_with fail
   refine hK.out _ _ ?_ (fun hHeld2 => ?_)
   ·exact D4.out
   clear hK Kx hHeld
   have hHeld:=hHeld2
   clear hHeld2
   try simp only [Act.put,List.setIfInBounds_toArray,List.set_cons_zero,List.set_cons_succ]
   have hcx:=hcv _ _ (cell_of_row _ _ 0 _ _ (0,0) nz1.out)
   refine wpAnyH_ready (rs:=[4]) (by as_aux_lemma => kernel_rfl) (by simp) ?_
   refine AllReadyH.cons rfl (fun Kx hK => ?_) AllReadyH.nil
   go_simp
   refine hK.out _ _ ?_ (fun hHeld2 => ?_)
   ·exact heldB_up K4.out D0.out
   clear hK Kx hHeld hcx
   have hHeld:=hHeld2
   clear hHeld2
   try simp only [Act.put,List.setIfInBounds_toArray,List.set_cons_zero,List.set_cons_succ]
   refine tkZ 9 ?_
   refine tkZ 10 ?_
   refine wpAnyH_done (by kernel_rfl) ?_ _
   clear D0
   replace FB:=hZq (upQ FB.out (K4.out))
   replace V:=hZq (V.out.later (K4.out))
   replace HB:=hZq (below2Z HB.out (K4.out))
   have FBo:=blk10 FB.out
   go_wp2_with fail
   clear FBo
   refine (rdiput_eq V.out HSH.out HPT).mono ?_
   rintro e w801 ⟨rfl,b801⟩
   replace FB:=hZq (upQ FB.out b801)
   replace V:=hZq (V.out.later b801)
   replace HB:=hZq (below2Z HB.out b801)
   clear b801
   have FBo:=blk10 FB.out
   go_wp2_with fail
   clear FBo
   go_ret
   exact⟨rfl,HB.out⟩
 ·go_simp
  refine (HP.out _).mono ?_
  rintro e z6 ⟨rfl,bz6⟩
  have K6:=hZq (below2Z K0.out bz6)
  have D6:=hZq (heldB_up K6.out D0.out)
  clear bz6
  go_wp2_with fail
  refine hK.out _ _ ?_ (fun hHeld2 => ?_)
  ·exact D6.out
  clear hK Kx hHeld
  have hHeld:=hHeld2
  clear hHeld2
  try simp only [Act.put,List.setIfInBounds_toArray,List.set_cons_zero,List.set_cons_succ]
  refine wpAnyH_ready (rs:=[3]) (by as_aux_lemma => kernel_rfl) (by simp) ?_
  refine AllReadyH.cons rfl (fun Kx hK => ?_) AllReadyH.nil
  go_simp
  refine hK.out _ _ ?_ (fun hHeld2 => ?_)
  ·exact heldB_up (below2Z K6.out (bl_newZ _ _)) D0.out
  clear hK Kx hHeld
  have hHeld:=hHeld2
  clear hHeld2
  try simp only [Act.put,List.setIfInBounds_toArray,List.set_cons_zero,List.set_cons_succ]
  have bz7:=bl_newZ z6 (.cells #[.int .u8 3] 5)
  have K7:=hZq (below2Z K6.out bz7)
  have D7:=hZq (heldB_up K7.out D0.out)
  have nz7:=hZq ((MapKept.heap_alloc z6 (.cells #[.int .u8 3] 5)).1)
  have hB7:w2.heap.size≤z6.heap.size:=(K6.out).size
  clear bz7
  generalize z6.alloc (.cells #[.int .u8 3] 5)=z7 at K7 D7 nz7 hHeld ⊢
  generalize z6.heap.size=B7 at nz7 hB7  ⊢
  have hcx:=hcv _ _ (cell_of_row _ _ 0 _ _ (0,0) nz7.out)
  refine wpAnyH_ready (rs:=[4]) (by as_aux_lemma => kernel_rfl) (by simp) ?_
  refine AllReadyH.cons rfl (fun Kx hK => ?_) AllReadyH.nil
  go_simp
  refine hK.out _ _ ?_ (fun hHeld2 => ?_)
  ·exact heldB_up K7.out D0.out
  clear hK Kx hHeld hcx
  have hHeld:=hHeld2
  clear hHeld2
  try simp only [Act.put,List.setIfInBounds_toArray,List.set_cons_zero,List.set_cons_succ]
  refine tkZ 9 ?_
  refine tkZ 10 ?_
  refine wpAnyH_done (by kernel_rfl) ?_ _
  clear D0
  replace FB:=hZq (upQ FB.out (K7.out))
  replace V:=hZq (V.out.later (K7.out))
  replace HB:=hZq (below2Z HB.out (K7.out))
  have FBo:=blk10 FB.out
  go_wp2_with fail
  clear FBo
  refine (rdiput_eq V.out HSH.out HPT).mono ?_
  rintro e w801 ⟨rfl,b801⟩
  replace FB:=hZq (upQ FB.out b801)
  replace V:=hZq (V.out.later b801)
  replace HB:=hZq (below2Z HB.out b801)
  clear b801
  have FBo:=blk10 FB.out
  go_wp2_with fail
  clear FBo
  go_ret
  exact⟨rfl,HB.out⟩

theorem rplain_2 {w:World} {ta:Option Addr} {tc:Nat} {sum:Nat} (n:Nat) (hn:n < 9223372036854775808) (hs:sum < 18446744073709551616) :
  Calls Tryz.prog 55 #[.agg #[.int .i64 2,.int .i64 n,.bool false,.string ⟨#[]⟩,.int .i64 0,.int .i64 0,.int .i64 0,.string ⟨#[]⟩,.int .u64 sum,.slice ta 0 tc]] w fun e w' => e=.returned (.string ⟨(frPlain ⟨2,n,false,[],Val.zero,sum,[]⟩).toArray⟩)∧Below w.heap.size w w':=by
 have HP:=hZq (rput_any n (by omega))
 have hvl:=vput_len_le n
 have hz0:(0:Int)≤n:=by omega
 have e4:IntKind.u64.wrap (n:Int)=n:=by rw [IntKind.wrap_u64]; omega
 have e1:IntKind.u8.wrap 2=2:=by decide
 have hcv:=fun w B => run_convert_one (P:=Tryz.prog) w 118 5 9 Tryz.underlying118 Tryz.underlying5 Tryz.underlying9 B (u8of 2) 2 (by decide)
 obtain⟨hd,hhd⟩ : ∃ hd,hd=[u8of 2]:=⟨_,rfl⟩
 rw [← hhd] at hcv
 have hdl:hd.length≤1:=by rw [hhd]; simp
 obtain⟨vn,hvn⟩ : ∃ vn,vput n=vn:=⟨_,rfl⟩
 rw [hvn] at HP hvl
 have HR:Hid (frPlain ⟨2,n,false,[],Val.zero,sum,[]⟩=hd ++ (vn ++ be8 sum)):=hZq (by unfold frPlain frBody; rw [hhd]; simp [hvn])
 clear hhd hvn hn
 rw [HR.out]
 clear HR
 have hbig:¬ 9223372036854775807 < hd.length+vn.length:=by omega
 obtain⟨FB,HB⟩:=ent1 w (.cells #[.int .i64 2,.int .i64 n,.bool false,.string ⟨#[]⟩,.int .i64 0,.int .i64 0,.int .i64 0,.string ⟨#[]⟩,.int .u64 sum,.slice ta 0 tc] 56)
 go_enter Tryz.func55,Tryz.ntmps55
 have FBo:=blk10 FB.out
 go_wp2_with fail
 clear FBo
 generalize w.alloc (.cells #[.int .i64 2,.int .i64 n,.bool false,.string ⟨#[]⟩,.int .i64 0,.int .i64 0,.int .i64 0,.string ⟨#[]⟩,.int .u64 sum,.slice ta 0 tc] 56)=w2 at FB HB ⊢
 obtain⟨BS,hBS⟩ : ∃ BS:List (Nat × List Value),BS=[(w.heap.size,[.int .i64 2,.int .i64 n,.bool false,.string ⟨#[]⟩,.int .i64 0,.int .i64 0,.int .i64 0,.string ⟨#[]⟩,.int .u64 sum,.slice ta 0 tc])]:=⟨_,rfl⟩
 have D0:=hZq (show heldB w2 BS from by rw [hBS]; exact heldB_cons (cellsAt_block FB.out) (heldB_nil _))
 have hL:=heldB_at (b:=w.heap.size) (vs:=[.int .i64 2,.int .i64 n,.bool false,.string ⟨#[]⟩,.int .i64 0,.int .i64 0,.int .i64 0,.string ⟨#[]⟩,.int .u64 sum,.slice ta 0 tc]) (bs:=BS) (by rw [hBS]; simp)
 have hq0:=hL 0 _ rfl
 have hq1:=hL 1 _ rfl
 have hq2:=hL 2 _ rfl
 have hq3:=hL 3 _ rfl
 have hq4:=hL 4 _ rfl
 have hq5:=hL 5 _ rfl
 have hq6:=hL 6 _ rfl
 have hq7:=hL 7 _ rfl
 have hq8:=hL 8 _ rfl
 have hq9:=hL 9 _ rfl
 clear hL
 clear hBS
 have K0:Hid (Below w2.heap.size w2 w2.drew):=hZq (Below.refl _ _).drew
 refine wp_region_held_drew (S:=(fun X => heldB X BS)) (by kernel_rfl) ?_ (fun hHeld => ?_)
 ·exact heldB_up K0.out D0.out
 generalize w2.drew=z0 at K0 hHeld ⊢
 refine tkZ 0 ?_
 refine tkZ 1 ?_
 refine tkZ 2 ?_
 refine tkZ 5 ?_
 refine tkZ 6 ?_
 refine tkZ 7 ?_
 refine wpAnyH_ready (rs:=[3,8]) (by as_aux_lemma => kernel_rfl) (by simp) ?_
 refine AllReadyH.cons rfl (fun Kx hK => ?_) (AllReadyH.cons rfl (fun Kx hK => ?_) (AllReadyH.nil))
 ·go_simp
  refine hK.out _ _ ?_ (fun hHeld2 => ?_)
  ·exact heldB_up (below2Z K0.out (bl_newZ _ _)) D0.out
  clear hK Kx hHeld
  have hHeld:=hHeld2
  clear hHeld2
  try simp only [Act.put,List.setIfInBounds_toArray,List.set_cons_zero,List.set_cons_succ]
  have bz1:=bl_newZ z0 (.cells #[.int .u8 2] 5)
  have K1:=hZq (below2Z K0.out bz1)
  have D1:=hZq (heldB_up K1.out D0.out)
  have nz1:=hZq ((MapKept.heap_alloc z0 (.cells #[.int .u8 2] 5)).1)
  have hB1:w2.heap.size≤z0.heap.size:=(K0.out).size
  clear bz1
  generalize z0.alloc (.cells #[.int .u8 2] 5)=z1 at K1 D1 nz1 hHeld ⊢
  generalize z0.heap.size=B1 at nz1 hB1  ⊢
  have hcx:=hcv _ _ (cell_of_row _ _ 0 _ _ (0,0) nz1.out)
  refine wpAnyH_ready (rs:=[4,8]) (by as_aux_lemma => kernel_rfl) (by simp) ?_
  refine AllReadyH.cons rfl (fun Kx hK => ?_) (AllReadyH.cons rfl (fun Kx hK => ?_) (AllReadyH.nil))
  ·go_simp
   refine hK.out _ _ ?_ (fun hHeld2 => ?_)
   ·exact heldB_up K1.out D0.out
   clear hK Kx hHeld hcx
   have hHeld:=hHeld2
   clear hHeld2
   try simp only [Act.put,List.setIfInBounds_toArray,List.set_cons_zero,List.set_cons_succ]
   refine wpAnyH_ready (rs:=[8]) (by as_aux_lemma => kernel_rfl) (by simp) ?_
   refine AllReadyH.cons rfl (fun Kx hK => ?_) AllReadyH.nil
   go_simp
   refine (HP.out _).mono ?_
   rintro e z3 ⟨rfl,bz3⟩
   have K3:=hZq (below2Z K1.out bz3)
   have D3:=hZq (heldB_up K3.out D0.out)
   replace nz1:=hZq (((bz3).block _ (Array.getElem?_eq_some_iff.1 (nz1.out)).1).trans (nz1.out))
   clear bz3
   go_wp2_with fail
   refine hK.out _ _ ?_ (fun hHeld2 => ?_)
   ·exact D3.out
   clear hK Kx hHeld
   have hHeld:=hHeld2
   clear hHeld2
   try simp only [Act.put,List.setIfInBounds_toArray,List.set_cons_zero,List.set_cons_succ]
   refine tkZ 9 ?_
   refine tkZ 10 ?_
   refine wpAnyH_done (by kernel_rfl) ?_ _
   clear D0
   replace FB:=hZq (upQ FB.out (K3.out))
   replace HB:=hZq (below2Z HB.out (K3.out))
   have FBo:=blk10 FB.out
   go_wp2_with fail
   clear FBo
   go_loopw [3,8] (fun s i wr => ∃ j:Nat,j≤8∧s=.string ⟨(hd ++ (vn ++ (be8 sum).take j)).toArray⟩∧i=.int .i64 (56 - 8 * (j:Int))∧Hid (Below w.heap.size w wr)∧Hid (wr.heap[w.heap.size]?=some (.cells #[.int .i64 2,.int .i64 n,.bool false,.string ⟨#[]⟩,.int .i64 0,.int .i64 0,.int .i64 0,.string ⟨#[]⟩,.int .u64 sum,.slice ta 0 tc] 56 (0,0)))) (fun _ i _ => (intOf i+8).toNat)
   case atStart => exact⟨0,by omega,by simp,by go_num,HB,FB⟩
   case round =>
    clear HB FB
    obtain⟨j,hj,rfl,rfl,HB,HC⟩:=hrel
    by_cases hlt:j < 8
    ·have h8:j=0∨j=1∨j=2∨j=3∨j=4∨j=5∨j=6∨j=7:=by omega
     clear hlt hj
     rcases h8 with rfl | rfl | rfl | rfl | rfl | rfl | rfl | rfl
     ·have hx:((u8of (sum / 72057594037927936 % 256)).toNat:Int)=(sum:Int) / 72057594037927936:=by rw [u8of_toNat (by omega)]; omega
      have hcn:=fun w => run_convert_new (P:=Tryz.prog) w 118 5 9 Tryz.underlying118 Tryz.underlying5 Tryz.underlying9 #[.int .u8 ((sum:Int) / 72057594037927936)] [u8of (sum / 72057594037927936 % 256)] (by simp only [bvals,List.map_cons,List.map_nil]; rw [hx]) 1 rfl (by decide)
      clear hx
      obtain⟨tj,htj⟩ : ∃ t,(be8 sum).take 0=t:=⟨_,rfl⟩
      have htk:(be8 sum).take 1=tj ++ [u8of (sum / 72057594037927936 % 256)]:=by rw [← htj]; rfl
      rw [htj]
      have htl:tj.length≤8:=by rw [← htj,List.length_take]; omega
      have HTK:=hZq htk
      clear htj htk
      generalize u8of (sum / 72057594037927936 % 256)=ub at hcn HTK
      obtain⟨⟨c0,c1,c2,c3,c4,c5,c6,c7,c8,c9⟩,⟨f0,f1,f2,f3,f4,f5,f6,f7,f8,f9⟩⟩:=blk10 HC.out
      go_wp2_with fail
      go_roundw
      case rel => exact⟨1,by omega,by rw [HTK.out],by go_num,hZq (HB.out.alloc HB.out.size _),hZq (upQ HC.out (bl_newZ _ _))⟩
      case measure => simp [intOf]
     ·have hx:((u8of (sum / 281474976710656 % 256)).toNat:Int)=(sum:Int) / 281474976710656 % 256:=by rw [u8of_toNat (by omega)]; omega
      have hcn:=fun w => run_convert_new (P:=Tryz.prog) w 118 5 9 Tryz.underlying118 Tryz.underlying5 Tryz.underlying9 #[.int .u8 ((sum:Int) / 281474976710656 % 256)] [u8of (sum / 281474976710656 % 256)] (by simp only [bvals,List.map_cons,List.map_nil]; rw [hx]) 1 rfl (by decide)
      clear hx
      obtain⟨tj,htj⟩ : ∃ t,(be8 sum).take 1=t:=⟨_,rfl⟩
      have htk:(be8 sum).take 2=tj ++ [u8of (sum / 281474976710656 % 256)]:=by rw [← htj]; rfl
      rw [htj]
      have htl:tj.length≤8:=by rw [← htj,List.length_take]; omega
      have HTK:=hZq htk
      clear htj htk
      generalize u8of (sum / 281474976710656 % 256)=ub at hcn HTK
      obtain⟨⟨c0,c1,c2,c3,c4,c5,c6,c7,c8,c9⟩,⟨f0,f1,f2,f3,f4,f5,f6,f7,f8,f9⟩⟩:=blk10 HC.out
      go_wp2_with fail
      go_roundw
      case rel => exact⟨2,by omega,by rw [HTK.out],by go_num,hZq (HB.out.alloc HB.out.size _),hZq (upQ HC.out (bl_newZ _ _))⟩
      case measure => simp [intOf]
     ·have hx:((u8of (sum / 1099511627776 % 256)).toNat:Int)=(sum:Int) / 1099511627776 % 256:=by rw [u8of_toNat (by omega)]; omega
      have hcn:=fun w => run_convert_new (P:=Tryz.prog) w 118 5 9 Tryz.underlying118 Tryz.underlying5 Tryz.underlying9 #[.int .u8 ((sum:Int) / 1099511627776 % 256)] [u8of (sum / 1099511627776 % 256)] (by simp only [bvals,List.map_cons,List.map_nil]; rw [hx]) 1 rfl (by decide)
      clear hx
      obtain⟨tj,htj⟩ : ∃ t,(be8 sum).take 2=t:=⟨_,rfl⟩
      have htk:(be8 sum).take 3=tj ++ [u8of (sum / 1099511627776 % 256)]:=by rw [← htj]; rfl
      rw [htj]
      have htl:tj.length≤8:=by rw [← htj,List.length_take]; omega
      have HTK:=hZq htk
      clear htj htk
      generalize u8of (sum / 1099511627776 % 256)=ub at hcn HTK
      obtain⟨⟨c0,c1,c2,c3,c4,c5,c6,c7,c8,c9⟩,⟨f0,f1,f2,f3,f4,f5,f6,f7,f8,f9⟩⟩:=blk10 HC.out
      go_wp2_with fail
      go_roundw
      case rel => exact⟨3,by omega,by rw [HTK.out],by go_num,hZq (HB.out.alloc HB.out.size _),hZq (upQ HC.out (bl_newZ _ _))⟩
      case measure => simp [intOf]
     ·have hx:((u8of (sum / 4294967296 % 256)).toNat:Int)=(sum:Int) / 4294967296 % 256:=by rw [u8of_toNat (by omega)]; omega
      have hcn:=fun w => run_convert_new (P:=Tryz.prog) w 118 5 9 Tryz.underlying118 Tryz.underlying5 Tryz.underlying9 #[.int .u8 ((sum:Int) / 4294967296 % 256)] [u8of (sum / 4294967296 % 256)] (by simp only [bvals,List.map_cons,List.map_nil]; rw [hx]) 1 rfl (by decide)
      clear hx
      obtain⟨tj,htj⟩ : ∃ t,(be8 sum).take 3=t:=⟨_,rfl⟩
      have htk:(be8 sum).take 4=tj ++ [u8of (sum / 4294967296 % 256)]:=by rw [← htj]; rfl
      rw [htj]
      have htl:tj.length≤8:=by rw [← htj,List.length_take]; omega
      have HTK:=hZq htk
      clear htj htk
      generalize u8of (sum / 4294967296 % 256)=ub at hcn HTK
      obtain⟨⟨c0,c1,c2,c3,c4,c5,c6,c7,c8,c9⟩,⟨f0,f1,f2,f3,f4,f5,f6,f7,f8,f9⟩⟩:=blk10 HC.out
      go_wp2_with fail
      go_roundw
      case rel => exact⟨4,by omega,by rw [HTK.out],by go_num,hZq (HB.out.alloc HB.out.size _),hZq (upQ HC.out (bl_newZ _ _))⟩
      case measure => simp [intOf]
     ·have hx:((u8of (sum / 16777216 % 256)).toNat:Int)=(sum:Int) / 16777216 % 256:=by rw [u8of_toNat (by omega)]; omega
      have hcn:=fun w => run_convert_new (P:=Tryz.prog) w 118 5 9 Tryz.underlying118 Tryz.underlying5 Tryz.underlying9 #[.int .u8 ((sum:Int) / 16777216 % 256)] [u8of (sum / 16777216 % 256)] (by simp only [bvals,List.map_cons,List.map_nil]; rw [hx]) 1 rfl (by decide)
      clear hx
      obtain⟨tj,htj⟩ : ∃ t,(be8 sum).take 4=t:=⟨_,rfl⟩
      have htk:(be8 sum).take 5=tj ++ [u8of (sum / 16777216 % 256)]:=by rw [← htj]; rfl
      rw [htj]
      have htl:tj.length≤8:=by rw [← htj,List.length_take]; omega
      have HTK:=hZq htk
      clear htj htk
      generalize u8of (sum / 16777216 % 256)=ub at hcn HTK
      obtain⟨⟨c0,c1,c2,c3,c4,c5,c6,c7,c8,c9⟩,⟨f0,f1,f2,f3,f4,f5,f6,f7,f8,f9⟩⟩:=blk10 HC.out
      go_wp2_with fail
      go_roundw
      case rel => exact⟨5,by omega,by rw [HTK.out],by go_num,hZq (HB.out.alloc HB.out.size _),hZq (upQ HC.out (bl_newZ _ _))⟩
      case measure => simp [intOf]
     ·have hx:((u8of (sum / 65536 % 256)).toNat:Int)=(sum:Int) / 65536 % 256:=by rw [u8of_toNat (by omega)]; omega
      have hcn:=fun w => run_convert_new (P:=Tryz.prog) w 118 5 9 Tryz.underlying118 Tryz.underlying5 Tryz.underlying9 #[.int .u8 ((sum:Int) / 65536 % 256)] [u8of (sum / 65536 % 256)] (by simp only [bvals,List.map_cons,List.map_nil]; rw [hx]) 1 rfl (by decide)
      clear hx
      obtain⟨tj,htj⟩ : ∃ t,(be8 sum).take 5=t:=⟨_,rfl⟩
      have htk:(be8 sum).take 6=tj ++ [u8of (sum / 65536 % 256)]:=by rw [← htj]; rfl
      rw [htj]
      have htl:tj.length≤8:=by rw [← htj,List.length_take]; omega
      have HTK:=hZq htk
      clear htj htk
      generalize u8of (sum / 65536 % 256)=ub at hcn HTK
      obtain⟨⟨c0,c1,c2,c3,c4,c5,c6,c7,c8,c9⟩,⟨f0,f1,f2,f3,f4,f5,f6,f7,f8,f9⟩⟩:=blk10 HC.out
      go_wp2_with fail
      go_roundw
      case rel => exact⟨6,by omega,by rw [HTK.out],by go_num,hZq (HB.out.alloc HB.out.size _),hZq (upQ HC.out (bl_newZ _ _))⟩
      case measure => simp [intOf]
     ·have hx:((u8of (sum / 256 % 256)).toNat:Int)=(sum:Int) / 256 % 256:=by rw [u8of_toNat (by omega)]; omega
      have hcn:=fun w => run_convert_new (P:=Tryz.prog) w 118 5 9 Tryz.underlying118 Tryz.underlying5 Tryz.underlying9 #[.int .u8 ((sum:Int) / 256 % 256)] [u8of (sum / 256 % 256)] (by simp only [bvals,List.map_cons,List.map_nil]; rw [hx]) 1 rfl (by decide)
      clear hx
      obtain⟨tj,htj⟩ : ∃ t,(be8 sum).take 6=t:=⟨_,rfl⟩
      have htk:(be8 sum).take 7=tj ++ [u8of (sum / 256 % 256)]:=by rw [← htj]; rfl
      rw [htj]
      have htl:tj.length≤8:=by rw [← htj,List.length_take]; omega
      have HTK:=hZq htk
      clear htj htk
      generalize u8of (sum / 256 % 256)=ub at hcn HTK
      obtain⟨⟨c0,c1,c2,c3,c4,c5,c6,c7,c8,c9⟩,⟨f0,f1,f2,f3,f4,f5,f6,f7,f8,f9⟩⟩:=blk10 HC.out
      go_wp2_with fail
      go_roundw
      case rel => exact⟨7,by omega,by rw [HTK.out],by go_num,hZq (HB.out.alloc HB.out.size _),hZq (upQ HC.out (bl_newZ _ _))⟩
      case measure => simp [intOf]
     ·have hx:((u8of (sum % 256)).toNat:Int)=(sum:Int) % 256:=by rw [u8of_toNat (by omega)]; rfl
      have hcn:=fun w => run_convert_new (P:=Tryz.prog) w 118 5 9 Tryz.underlying118 Tryz.underlying5 Tryz.underlying9 #[.int .u8 ((sum:Int) % 256)] [u8of (sum % 256)] (by simp only [bvals,List.map_cons,List.map_nil]; rw [hx]) 1 rfl (by decide)
      clear hx
      obtain⟨tj,htj⟩ : ∃ t,(be8 sum).take 7=t:=⟨_,rfl⟩
      have htk:(be8 sum).take 8=tj ++ [u8of (sum % 256)]:=by rw [← htj]; rfl
      rw [htj]
      have htl:tj.length≤8:=by rw [← htj,List.length_take]; omega
      have HTK:=hZq htk
      clear htj htk
      generalize u8of (sum % 256)=ub at hcn HTK
      obtain⟨⟨c0,c1,c2,c3,c4,c5,c6,c7,c8,c9⟩,⟨f0,f1,f2,f3,f4,f5,f6,f7,f8,f9⟩⟩:=blk10 HC.out
      go_wp2_with fail
      go_roundw
      case rel => exact⟨8,by omega,by rw [HTK.out],by go_num,hZq (HB.out.alloc HB.out.size _),hZq (upQ HC.out (bl_newZ _ _))⟩
      case measure => simp [intOf]
    ·obtain rfl:j=8:=by omega
     rw [show (be8 sum).take 8=be8 sum from rfl]
     clear hlt hj
     go_wp2_with fail
     go_ret
     exact⟨rfl,HB.out⟩
  ·go_simp
   refine (HP.out _).mono ?_
   rintro e z4 ⟨rfl,bz4⟩
   have K4:=hZq (below2Z K1.out bz4)
   have D4:=hZq (heldB_up K4.out D0.out)
   replace nz1:=hZq (((bz4).block _ (Array.getElem?_eq_some_iff.1 (nz1.out)).1).trans (nz1.out))
   clear bz4
   go_wp2_with fail
   refine hK.out _ _ ?_ (fun hHeld2 => ?_)
   ·exact D4.out
   clear hK Kx hHeld
   have hHeld:=hHeld2
   clear hHeld2
   try simp only [Act.put,List.setIfInBounds_toArray,List.set_cons_zero,List.set_cons_succ]
   have hcx:=hcv _ _ (cell_of_row _ _ 0 _ _ (0,0) nz1.out)
   refine wpAnyH_ready (rs:=[4]) (by as_aux_lemma => kernel_rfl) (by simp) ?_
   refine AllReadyH.cons rfl (fun Kx hK => ?_) AllReadyH.nil
   go_simp
   refine hK.out _ _ ?_ (fun hHeld2 => ?_)
   ·exact heldB_up K4.out D0.out
   clear hK Kx hHeld hcx
   have hHeld:=hHeld2
   clear hHeld2
   try simp only [Act.put,List.setIfInBounds_toArray,List.set_cons_zero,List.set_cons_succ]
   refine tkZ 9 ?_
   refine tkZ 10 ?_
   refine wpAnyH_done (by kernel_rfl) ?_ _
   clear D0
   replace FB:=hZq (upQ FB.out (K4.out))
   replace HB:=hZq (below2Z HB.out (K4.out))
   have FBo:=blk10 FB.out
   go_wp2_with fail
   clear FBo
   go_loopw [3,8] (fun s i wr => ∃ j:Nat,j≤8∧s=.string ⟨(hd ++ (vn ++ (be8 sum).take j)).toArray⟩∧i=.int .i64 (56 - 8 * (j:Int))∧Hid (Below w.heap.size w wr)∧Hid (wr.heap[w.heap.size]?=some (.cells #[.int .i64 2,.int .i64 n,.bool false,.string ⟨#[]⟩,.int .i64 0,.int .i64 0,.int .i64 0,.string ⟨#[]⟩,.int .u64 sum,.slice ta 0 tc] 56 (0,0)))) (fun _ i _ => (intOf i+8).toNat)
   case atStart => exact⟨0,by omega,by simp,by go_num,HB,FB⟩
   case round =>
    clear HB FB
    obtain⟨j,hj,rfl,rfl,HB,HC⟩:=hrel
    by_cases hlt:j < 8
    ·have h8:j=0∨j=1∨j=2∨j=3∨j=4∨j=5∨j=6∨j=7:=by omega
     clear hlt hj
     rcases h8 with rfl | rfl | rfl | rfl | rfl | rfl | rfl | rfl
     ·have hx:((u8of (sum / 72057594037927936 % 256)).toNat:Int)=(sum:Int) / 72057594037927936:=by rw [u8of_toNat (by omega)]; omega
      have hcn:=fun w => run_convert_new (P:=Tryz.prog) w 118 5 9 Tryz.underlying118 Tryz.underlying5 Tryz.underlying9 #[.int .u8 ((sum:Int) / 72057594037927936)] [u8of (sum / 72057594037927936 % 256)] (by simp only [bvals,List.map_cons,List.map_nil]; rw [hx]) 1 rfl (by decide)
      clear hx
      obtain⟨tj,htj⟩ : ∃ t,(be8 sum).take 0=t:=⟨_,rfl⟩
      have htk:(be8 sum).take 1=tj ++ [u8of (sum / 72057594037927936 % 256)]:=by rw [← htj]; rfl
      rw [htj]
      have htl:tj.length≤8:=by rw [← htj,List.length_take]; omega
      have HTK:=hZq htk
      clear htj htk
      generalize u8of (sum / 72057594037927936 % 256)=ub at hcn HTK
      obtain⟨⟨c0,c1,c2,c3,c4,c5,c6,c7,c8,c9⟩,⟨f0,f1,f2,f3,f4,f5,f6,f7,f8,f9⟩⟩:=blk10 HC.out
      go_wp2_with fail
      go_roundw
      case rel => exact⟨1,by omega,by rw [HTK.out],by go_num,hZq (HB.out.alloc HB.out.size _),hZq (upQ HC.out (bl_newZ _ _))⟩
      case measure => simp [intOf]
     ·have hx:((u8of (sum / 281474976710656 % 256)).toNat:Int)=(sum:Int) / 281474976710656 % 256:=by rw [u8of_toNat (by omega)]; omega
      have hcn:=fun w => run_convert_new (P:=Tryz.prog) w 118 5 9 Tryz.underlying118 Tryz.underlying5 Tryz.underlying9 #[.int .u8 ((sum:Int) / 281474976710656 % 256)] [u8of (sum / 281474976710656 % 256)] (by simp only [bvals,List.map_cons,List.map_nil]; rw [hx]) 1 rfl (by decide)
      clear hx
      obtain⟨tj,htj⟩ : ∃ t,(be8 sum).take 1=t:=⟨_,rfl⟩
      have htk:(be8 sum).take 2=tj ++ [u8of (sum / 281474976710656 % 256)]:=by rw [← htj]; rfl
      rw [htj]
      have htl:tj.length≤8:=by rw [← htj,List.length_take]; omega
      have HTK:=hZq htk
      clear htj htk
      generalize u8of (sum / 281474976710656 % 256)=ub at hcn HTK
      obtain⟨⟨c0,c1,c2,c3,c4,c5,c6,c7,c8,c9⟩,⟨f0,f1,f2,f3,f4,f5,f6,f7,f8,f9⟩⟩:=blk10 HC.out
      go_wp2_with fail
      go_roundw
      case rel => exact⟨2,by omega,by rw [HTK.out],by go_num,hZq (HB.out.alloc HB.out.size _),hZq (upQ HC.out (bl_newZ _ _))⟩
      case measure => simp [intOf]
     ·have hx:((u8of (sum / 1099511627776 % 256)).toNat:Int)=(sum:Int) / 1099511627776 % 256:=by rw [u8of_toNat (by omega)]; omega
      have hcn:=fun w => run_convert_new (P:=Tryz.prog) w 118 5 9 Tryz.underlying118 Tryz.underlying5 Tryz.underlying9 #[.int .u8 ((sum:Int) / 1099511627776 % 256)] [u8of (sum / 1099511627776 % 256)] (by simp only [bvals,List.map_cons,List.map_nil]; rw [hx]) 1 rfl (by decide)
      clear hx
      obtain⟨tj,htj⟩ : ∃ t,(be8 sum).take 2=t:=⟨_,rfl⟩
      have htk:(be8 sum).take 3=tj ++ [u8of (sum / 1099511627776 % 256)]:=by rw [← htj]; rfl
      rw [htj]
      have htl:tj.length≤8:=by rw [← htj,List.length_take]; omega
      have HTK:=hZq htk
      clear htj htk
      generalize u8of (sum / 1099511627776 % 256)=ub at hcn HTK
      obtain⟨⟨c0,c1,c2,c3,c4,c5,c6,c7,c8,c9⟩,⟨f0,f1,f2,f3,f4,f5,f6,f7,f8,f9⟩⟩:=blk10 HC.out
      go_wp2_with fail
      go_roundw
      case rel => exact⟨3,by omega,by rw [HTK.out],by go_num,hZq (HB.out.alloc HB.out.size _),hZq (upQ HC.out (bl_newZ _ _))⟩
      case measure => simp [intOf]
     ·have hx:((u8of (sum / 4294967296 % 256)).toNat:Int)=(sum:Int) / 4294967296 % 256:=by rw [u8of_toNat (by omega)]; omega
      have hcn:=fun w => run_convert_new (P:=Tryz.prog) w 118 5 9 Tryz.underlying118 Tryz.underlying5 Tryz.underlying9 #[.int .u8 ((sum:Int) / 4294967296 % 256)] [u8of (sum / 4294967296 % 256)] (by simp only [bvals,List.map_cons,List.map_nil]; rw [hx]) 1 rfl (by decide)
      clear hx
      obtain⟨tj,htj⟩ : ∃ t,(be8 sum).take 3=t:=⟨_,rfl⟩
      have htk:(be8 sum).take 4=tj ++ [u8of (sum / 4294967296 % 256)]:=by rw [← htj]; rfl
      rw [htj]
      have htl:tj.length≤8:=by rw [← htj,List.length_take]; omega
      have HTK:=hZq htk
      clear htj htk
      generalize u8of (sum / 4294967296 % 256)=ub at hcn HTK
      obtain⟨⟨c0,c1,c2,c3,c4,c5,c6,c7,c8,c9⟩,⟨f0,f1,f2,f3,f4,f5,f6,f7,f8,f9⟩⟩:=blk10 HC.out
      go_wp2_with fail
      go_roundw
      case rel => exact⟨4,by omega,by rw [HTK.out],by go_num,hZq (HB.out.alloc HB.out.size _),hZq (upQ HC.out (bl_newZ _ _))⟩
      case measure => simp [intOf]
     ·have hx:((u8of (sum / 16777216 % 256)).toNat:Int)=(sum:Int) / 16777216 % 256:=by rw [u8of_toNat (by omega)]; omega
      have hcn:=fun w => run_convert_new (P:=Tryz.prog) w 118 5 9 Tryz.underlying118 Tryz.underlying5 Tryz.underlying9 #[.int .u8 ((sum:Int) / 16777216 % 256)] [u8of (sum / 16777216 % 256)] (by simp only [bvals,List.map_cons,List.map_nil]; rw [hx]) 1 rfl (by decide)
      clear hx
      obtain⟨tj,htj⟩ : ∃ t,(be8 sum).take 4=t:=⟨_,rfl⟩
      have htk:(be8 sum).take 5=tj ++ [u8of (sum / 16777216 % 256)]:=by rw [← htj]; rfl
      rw [htj]
      have htl:tj.length≤8:=by rw [← htj,List.length_take]; omega
      have HTK:=hZq htk
      clear htj htk
      generalize u8of (sum / 16777216 % 256)=ub at hcn HTK
      obtain⟨⟨c0,c1,c2,c3,c4,c5,c6,c7,c8,c9⟩,⟨f0,f1,f2,f3,f4,f5,f6,f7,f8,f9⟩⟩:=blk10 HC.out
      go_wp2_with fail
      go_roundw
      case rel => exact⟨5,by omega,by rw [HTK.out],by go_num,hZq (HB.out.alloc HB.out.size _),hZq (upQ HC.out (bl_newZ _ _))⟩
      case measure => simp [intOf]
     ·have hx:((u8of (sum / 65536 % 256)).toNat:Int)=(sum:Int) / 65536 % 256:=by rw [u8of_toNat (by omega)]; omega
      have hcn:=fun w => run_convert_new (P:=Tryz.prog) w 118 5 9 Tryz.underlying118 Tryz.underlying5 Tryz.underlying9 #[.int .u8 ((sum:Int) / 65536 % 256)] [u8of (sum / 65536 % 256)] (by simp only [bvals,List.map_cons,List.map_nil]; rw [hx]) 1 rfl (by decide)
      clear hx
      obtain⟨tj,htj⟩ : ∃ t,(be8 sum).take 5=t:=⟨_,rfl⟩
      have htk:(be8 sum).take 6=tj ++ [u8of (sum / 65536 % 256)]:=by rw [← htj]; rfl
      rw [htj]
      have htl:tj.length≤8:=by rw [← htj,List.length_take]; omega
      have HTK:=hZq htk
      clear htj htk
      generalize u8of (sum / 65536 % 256)=ub at hcn HTK
      obtain⟨⟨c0,c1,c2,c3,c4,c5,c6,c7,c8,c9⟩,⟨f0,f1,f2,f3,f4,f5,f6,f7,f8,f9⟩⟩:=blk10 HC.out
      go_wp2_with fail
      go_roundw
      case rel => exact⟨6,by omega,by rw [HTK.out],by go_num,hZq (HB.out.alloc HB.out.size _),hZq (upQ HC.out (bl_newZ _ _))⟩
      case measure => simp [intOf]
     ·have hx:((u8of (sum / 256 % 256)).toNat:Int)=(sum:Int) / 256 % 256:=by rw [u8of_toNat (by omega)]; omega
      have hcn:=fun w => run_convert_new (P:=Tryz.prog) w 118 5 9 Tryz.underlying118 Tryz.underlying5 Tryz.underlying9 #[.int .u8 ((sum:Int) / 256 % 256)] [u8of (sum / 256 % 256)] (by simp only [bvals,List.map_cons,List.map_nil]; rw [hx]) 1 rfl (by decide)
      clear hx
      obtain⟨tj,htj⟩ : ∃ t,(be8 sum).take 6=t:=⟨_,rfl⟩
      have htk:(be8 sum).take 7=tj ++ [u8of (sum / 256 % 256)]:=by rw [← htj]; rfl
      rw [htj]
      have htl:tj.length≤8:=by rw [← htj,List.length_take]; omega
      have HTK:=hZq htk
      clear htj htk
      generalize u8of (sum / 256 % 256)=ub at hcn HTK
      obtain⟨⟨c0,c1,c2,c3,c4,c5,c6,c7,c8,c9⟩,⟨f0,f1,f2,f3,f4,f5,f6,f7,f8,f9⟩⟩:=blk10 HC.out
      go_wp2_with fail
      go_roundw
      case rel => exact⟨7,by omega,by rw [HTK.out],by go_num,hZq (HB.out.alloc HB.out.size _),hZq (upQ HC.out (bl_newZ _ _))⟩
      case measure => simp [intOf]
     ·have hx:((u8of (sum % 256)).toNat:Int)=(sum:Int) % 256:=by rw [u8of_toNat (by omega)]; rfl
      have hcn:=fun w => run_convert_new (P:=Tryz.prog) w 118 5 9 Tryz.underlying118 Tryz.underlying5 Tryz.underlying9 #[.int .u8 ((sum:Int) % 256)] [u8of (sum % 256)] (by simp only [bvals,List.map_cons,List.map_nil]; rw [hx]) 1 rfl (by decide)
      clear hx
      obtain⟨tj,htj⟩ : ∃ t,(be8 sum).take 7=t:=⟨_,rfl⟩
      have htk:(be8 sum).take 8=tj ++ [u8of (sum % 256)]:=by rw [← htj]; rfl
      rw [htj]
      have htl:tj.length≤8:=by rw [← htj,List.length_take]; omega
      have HTK:=hZq htk
      clear htj htk
      generalize u8of (sum % 256)=ub at hcn HTK
      obtain⟨⟨c0,c1,c2,c3,c4,c5,c6,c7,c8,c9⟩,⟨f0,f1,f2,f3,f4,f5,f6,f7,f8,f9⟩⟩:=blk10 HC.out
      go_wp2_with fail
      go_roundw
      case rel => exact⟨8,by omega,by rw [HTK.out],by go_num,hZq (HB.out.alloc HB.out.size _),hZq (upQ HC.out (bl_newZ _ _))⟩
      case measure => simp [intOf]
    ·obtain rfl:j=8:=by omega
     rw [show (be8 sum).take 8=be8 sum from rfl]
     clear hlt hj
     go_wp2_with fail
     go_ret
     exact⟨rfl,HB.out⟩
 ·go_simp
  refine (HP.out _).mono ?_
  rintro e z6 ⟨rfl,bz6⟩
  have K6:=hZq (below2Z K0.out bz6)
  have D6:=hZq (heldB_up K6.out D0.out)
  clear bz6
  go_wp2_with fail
  refine hK.out _ _ ?_ (fun hHeld2 => ?_)
  ·exact D6.out
  clear hK Kx hHeld
  have hHeld:=hHeld2
  clear hHeld2
  try simp only [Act.put,List.setIfInBounds_toArray,List.set_cons_zero,List.set_cons_succ]
  refine wpAnyH_ready (rs:=[3]) (by as_aux_lemma => kernel_rfl) (by simp) ?_
  refine AllReadyH.cons rfl (fun Kx hK => ?_) AllReadyH.nil
  go_simp
  refine hK.out _ _ ?_ (fun hHeld2 => ?_)
  ·exact heldB_up (below2Z K6.out (bl_newZ _ _)) D0.out
  clear hK Kx hHeld
  have hHeld:=hHeld2
  clear hHeld2
  try simp only [Act.put,List.setIfInBounds_toArray,List.set_cons_zero,List.set_cons_succ]
  have bz7:=bl_newZ z6 (.cells #[.int .u8 2] 5)
  have K7:=hZq (below2Z K6.out bz7)
  have D7:=hZq (heldB_up K7.out D0.out)
  have nz7:=hZq ((MapKept.heap_alloc z6 (.cells #[.int .u8 2] 5)).1)
  have hB7:w2.heap.size≤z6.heap.size:=(K6.out).size
  clear bz7
  generalize z6.alloc (.cells #[.int .u8 2] 5)=z7 at K7 D7 nz7 hHeld ⊢
  generalize z6.heap.size=B7 at nz7 hB7  ⊢
  have hcx:=hcv _ _ (cell_of_row _ _ 0 _ _ (0,0) nz7.out)
  refine wpAnyH_ready (rs:=[4]) (by as_aux_lemma => kernel_rfl) (by simp) ?_
  refine AllReadyH.cons rfl (fun Kx hK => ?_) AllReadyH.nil
  go_simp
  refine hK.out _ _ ?_ (fun hHeld2 => ?_)
  ·exact heldB_up K7.out D0.out
  clear hK Kx hHeld hcx
  have hHeld:=hHeld2
  clear hHeld2
  try simp only [Act.put,List.setIfInBounds_toArray,List.set_cons_zero,List.set_cons_succ]
  refine tkZ 9 ?_
  refine tkZ 10 ?_
  refine wpAnyH_done (by kernel_rfl) ?_ _
  clear D0
  replace FB:=hZq (upQ FB.out (K7.out))
  replace HB:=hZq (below2Z HB.out (K7.out))
  have FBo:=blk10 FB.out
  go_wp2_with fail
  clear FBo
  go_loopw [3,8] (fun s i wr => ∃ j:Nat,j≤8∧s=.string ⟨(hd ++ (vn ++ (be8 sum).take j)).toArray⟩∧i=.int .i64 (56 - 8 * (j:Int))∧Hid (Below w.heap.size w wr)∧Hid (wr.heap[w.heap.size]?=some (.cells #[.int .i64 2,.int .i64 n,.bool false,.string ⟨#[]⟩,.int .i64 0,.int .i64 0,.int .i64 0,.string ⟨#[]⟩,.int .u64 sum,.slice ta 0 tc] 56 (0,0)))) (fun _ i _ => (intOf i+8).toNat)
  case atStart => exact⟨0,by omega,by simp,by go_num,HB,FB⟩
  case round =>
   clear HB FB
   obtain⟨j,hj,rfl,rfl,HB,HC⟩:=hrel
   by_cases hlt:j < 8
   ·have h8:j=0∨j=1∨j=2∨j=3∨j=4∨j=5∨j=6∨j=7:=by omega
    clear hlt hj
    rcases h8 with rfl | rfl | rfl | rfl | rfl | rfl | rfl | rfl
    ·have hx:((u8of (sum / 72057594037927936 % 256)).toNat:Int)=(sum:Int) / 72057594037927936:=by rw [u8of_toNat (by omega)]; omega
     have hcn:=fun w => run_convert_new (P:=Tryz.prog) w 118 5 9 Tryz.underlying118 Tryz.underlying5 Tryz.underlying9 #[.int .u8 ((sum:Int) / 72057594037927936)] [u8of (sum / 72057594037927936 % 256)] (by simp only [bvals,List.map_cons,List.map_nil]; rw [hx]) 1 rfl (by decide)
     clear hx
     obtain⟨tj,htj⟩ : ∃ t,(be8 sum).take 0=t:=⟨_,rfl⟩
     have htk:(be8 sum).take 1=tj ++ [u8of (sum / 72057594037927936 % 256)]:=by rw [← htj]; rfl
     rw [htj]
     have htl:tj.length≤8:=by rw [← htj,List.length_take]; omega
     have HTK:=hZq htk
     clear htj htk
     generalize u8of (sum / 72057594037927936 % 256)=ub at hcn HTK
     obtain⟨⟨c0,c1,c2,c3,c4,c5,c6,c7,c8,c9⟩,⟨f0,f1,f2,f3,f4,f5,f6,f7,f8,f9⟩⟩:=blk10 HC.out
     go_wp2_with fail
     go_roundw
     case rel => exact⟨1,by omega,by rw [HTK.out],by go_num,hZq (HB.out.alloc HB.out.size _),hZq (upQ HC.out (bl_newZ _ _))⟩
     case measure => simp [intOf]
    ·have hx:((u8of (sum / 281474976710656 % 256)).toNat:Int)=(sum:Int) / 281474976710656 % 256:=by rw [u8of_toNat (by omega)]; omega
     have hcn:=fun w => run_convert_new (P:=Tryz.prog) w 118 5 9 Tryz.underlying118 Tryz.underlying5 Tryz.underlying9 #[.int .u8 ((sum:Int) / 281474976710656 % 256)] [u8of (sum / 281474976710656 % 256)] (by simp only [bvals,List.map_cons,List.map_nil]; rw [hx]) 1 rfl (by decide)
     clear hx
     obtain⟨tj,htj⟩ : ∃ t,(be8 sum).take 1=t:=⟨_,rfl⟩
     have htk:(be8 sum).take 2=tj ++ [u8of (sum / 281474976710656 % 256)]:=by rw [← htj]; rfl
     rw [htj]
     have htl:tj.length≤8:=by rw [← htj,List.length_take]; omega
     have HTK:=hZq htk
     clear htj htk
     generalize u8of (sum / 281474976710656 % 256)=ub at hcn HTK
     obtain⟨⟨c0,c1,c2,c3,c4,c5,c6,c7,c8,c9⟩,⟨f0,f1,f2,f3,f4,f5,f6,f7,f8,f9⟩⟩:=blk10 HC.out
     go_wp2_with fail
     go_roundw
     case rel => exact⟨2,by omega,by rw [HTK.out],by go_num,hZq (HB.out.alloc HB.out.size _),hZq (upQ HC.out (bl_newZ _ _))⟩
     case measure => simp [intOf]
    ·have hx:((u8of (sum / 1099511627776 % 256)).toNat:Int)=(sum:Int) / 1099511627776 % 256:=by rw [u8of_toNat (by omega)]; omega
     have hcn:=fun w => run_convert_new (P:=Tryz.prog) w 118 5 9 Tryz.underlying118 Tryz.underlying5 Tryz.underlying9 #[.int .u8 ((sum:Int) / 1099511627776 % 256)] [u8of (sum / 1099511627776 % 256)] (by simp only [bvals,List.map_cons,List.map_nil]; rw [hx]) 1 rfl (by decide)
     clear hx
     obtain⟨tj,htj⟩ : ∃ t,(be8 sum).take 2=t:=⟨_,rfl⟩
     have htk:(be8 sum).take 3=tj ++ [u8of (sum / 1099511627776 % 256)]:=by rw [← htj]; rfl
     rw [htj]
     have htl:tj.length≤8:=by rw [← htj,List.length_take]; omega
     have HTK:=hZq htk
     clear htj htk
     generalize u8of (sum / 1099511627776 % 256)=ub at hcn HTK
     obtain⟨⟨c0,c1,c2,c3,c4,c5,c6,c7,c8,c9⟩,⟨f0,f1,f2,f3,f4,f5,f6,f7,f8,f9⟩⟩:=blk10 HC.out
     go_wp2_with fail
     go_roundw
     case rel => exact⟨3,by omega,by rw [HTK.out],by go_num,hZq (HB.out.alloc HB.out.size _),hZq (upQ HC.out (bl_newZ _ _))⟩
     case measure => simp [intOf]
    ·have hx:((u8of (sum / 4294967296 % 256)).toNat:Int)=(sum:Int) / 4294967296 % 256:=by rw [u8of_toNat (by omega)]; omega
     have hcn:=fun w => run_convert_new (P:=Tryz.prog) w 118 5 9 Tryz.underlying118 Tryz.underlying5 Tryz.underlying9 #[.int .u8 ((sum:Int) / 4294967296 % 256)] [u8of (sum / 4294967296 % 256)] (by simp only [bvals,List.map_cons,List.map_nil]; rw [hx]) 1 rfl (by decide)
     clear hx
     obtain⟨tj,htj⟩ : ∃ t,(be8 sum).take 3=t:=⟨_,rfl⟩
     have htk:(be8 sum).take 4=tj ++ [u8of (sum / 4294967296 % 256)]:=by rw [← htj]; rfl
     rw [htj]
     have htl:tj.length≤8:=by rw [← htj,List.length_take]; omega
     have HTK:=hZq htk
     clear htj htk
     generalize u8of (sum / 4294967296 % 256)=ub at hcn HTK
     obtain⟨⟨c0,c1,c2,c3,c4,c5,c6,c7,c8,c9⟩,⟨f0,f1,f2,f3,f4,f5,f6,f7,f8,f9⟩⟩:=blk10 HC.out
     go_wp2_with fail
     go_roundw
     case rel => exact⟨4,by omega,by rw [HTK.out],by go_num,hZq (HB.out.alloc HB.out.size _),hZq (upQ HC.out (bl_newZ _ _))⟩
     case measure => simp [intOf]
    ·have hx:((u8of (sum / 16777216 % 256)).toNat:Int)=(sum:Int) / 16777216 % 256:=by rw [u8of_toNat (by omega)]; omega
     have hcn:=fun w => run_convert_new (P:=Tryz.prog) w 118 5 9 Tryz.underlying118 Tryz.underlying5 Tryz.underlying9 #[.int .u8 ((sum:Int) / 16777216 % 256)] [u8of (sum / 16777216 % 256)] (by simp only [bvals,List.map_cons,List.map_nil]; rw [hx]) 1 rfl (by decide)
     clear hx
     obtain⟨tj,htj⟩ : ∃ t,(be8 sum).take 4=t:=⟨_,rfl⟩
     have htk:(be8 sum).take 5=tj ++ [u8of (sum / 16777216 % 256)]:=by rw [← htj]; rfl
     rw [htj]
     have htl:tj.length≤8:=by rw [← htj,List.length_take]; omega
     have HTK:=hZq htk
     clear htj htk
     generalize u8of (sum / 16777216 % 256)=ub at hcn HTK
     obtain⟨⟨c0,c1,c2,c3,c4,c5,c6,c7,c8,c9⟩,⟨f0,f1,f2,f3,f4,f5,f6,f7,f8,f9⟩⟩:=blk10 HC.out
     go_wp2_with fail
     go_roundw
     case rel => exact⟨5,by omega,by rw [HTK.out],by go_num,hZq (HB.out.alloc HB.out.size _),hZq (upQ HC.out (bl_newZ _ _))⟩
     case measure => simp [intOf]
    ·have hx:((u8of (sum / 65536 % 256)).toNat:Int)=(sum:Int) / 65536 % 256:=by rw [u8of_toNat (by omega)]; omega
     have hcn:=fun w => run_convert_new (P:=Tryz.prog) w 118 5 9 Tryz.underlying118 Tryz.underlying5 Tryz.underlying9 #[.int .u8 ((sum:Int) / 65536 % 256)] [u8of (sum / 65536 % 256)] (by simp only [bvals,List.map_cons,List.map_nil]; rw [hx]) 1 rfl (by decide)
     clear hx
     obtain⟨tj,htj⟩ : ∃ t,(be8 sum).take 5=t:=⟨_,rfl⟩
     have htk:(be8 sum).take 6=tj ++ [u8of (sum / 65536 % 256)]:=by rw [← htj]; rfl
     rw [htj]
     have htl:tj.length≤8:=by rw [← htj,List.length_take]; omega
     have HTK:=hZq htk
     clear htj htk
     generalize u8of (sum / 65536 % 256)=ub at hcn HTK
     obtain⟨⟨c0,c1,c2,c3,c4,c5,c6,c7,c8,c9⟩,⟨f0,f1,f2,f3,f4,f5,f6,f7,f8,f9⟩⟩:=blk10 HC.out
     go_wp2_with fail
     go_roundw
     case rel => exact⟨6,by omega,by rw [HTK.out],by go_num,hZq (HB.out.alloc HB.out.size _),hZq (upQ HC.out (bl_newZ _ _))⟩
     case measure => simp [intOf]
    ·have hx:((u8of (sum / 256 % 256)).toNat:Int)=(sum:Int) / 256 % 256:=by rw [u8of_toNat (by omega)]; omega
     have hcn:=fun w => run_convert_new (P:=Tryz.prog) w 118 5 9 Tryz.underlying118 Tryz.underlying5 Tryz.underlying9 #[.int .u8 ((sum:Int) / 256 % 256)] [u8of (sum / 256 % 256)] (by simp only [bvals,List.map_cons,List.map_nil]; rw [hx]) 1 rfl (by decide)
     clear hx
     obtain⟨tj,htj⟩ : ∃ t,(be8 sum).take 6=t:=⟨_,rfl⟩
     have htk:(be8 sum).take 7=tj ++ [u8of (sum / 256 % 256)]:=by rw [← htj]; rfl
     rw [htj]
     have htl:tj.length≤8:=by rw [← htj,List.length_take]; omega
     have HTK:=hZq htk
     clear htj htk
     generalize u8of (sum / 256 % 256)=ub at hcn HTK
     obtain⟨⟨c0,c1,c2,c3,c4,c5,c6,c7,c8,c9⟩,⟨f0,f1,f2,f3,f4,f5,f6,f7,f8,f9⟩⟩:=blk10 HC.out
     go_wp2_with fail
     go_roundw
     case rel => exact⟨7,by omega,by rw [HTK.out],by go_num,hZq (HB.out.alloc HB.out.size _),hZq (upQ HC.out (bl_newZ _ _))⟩
     case measure => simp [intOf]
    ·have hx:((u8of (sum % 256)).toNat:Int)=(sum:Int) % 256:=by rw [u8of_toNat (by omega)]; rfl
     have hcn:=fun w => run_convert_new (P:=Tryz.prog) w 118 5 9 Tryz.underlying118 Tryz.underlying5 Tryz.underlying9 #[.int .u8 ((sum:Int) % 256)] [u8of (sum % 256)] (by simp only [bvals,List.map_cons,List.map_nil]; rw [hx]) 1 rfl (by decide)
     clear hx
     obtain⟨tj,htj⟩ : ∃ t,(be8 sum).take 7=t:=⟨_,rfl⟩
     have htk:(be8 sum).take 8=tj ++ [u8of (sum % 256)]:=by rw [← htj]; rfl
     rw [htj]
     have htl:tj.length≤8:=by rw [← htj,List.length_take]; omega
     have HTK:=hZq htk
     clear htj htk
     generalize u8of (sum % 256)=ub at hcn HTK
     obtain⟨⟨c0,c1,c2,c3,c4,c5,c6,c7,c8,c9⟩,⟨f0,f1,f2,f3,f4,f5,f6,f7,f8,f9⟩⟩:=blk10 HC.out
     go_wp2_with fail
     go_roundw
     case rel => exact⟨8,by omega,by rw [HTK.out],by go_num,hZq (HB.out.alloc HB.out.size _),hZq (upQ HC.out (bl_newZ _ _))⟩
     case measure => simp [intOf]
   ·obtain rfl:j=8:=by omega
    rw [show (be8 sum).take 8=be8 sum from rfl]
    clear hlt hj
    go_wp2_with fail
    go_ret
    exact⟨rfl,HB.out⟩

theorem rplain_any {w:World} {v:Value} {k q sh pr si:Int} {on:Bool} {c st:List UInt8} {sum:Nat} {tt:List Row} (hv:Tab w v tt) (hsh:Short tt) (hs:sum < 18446744073709551616) (hm:frMay ⟨k,q,on,c,⟨sh,pr,si,st⟩,sum,tt⟩=true) :
  Calls Tryz.prog 55 #[.agg #[.int .i64 k,.int .i64 q,.bool on,.string ⟨c.toArray⟩,.int .i64 sh,.int .i64 pr,.int .i64 si,.string ⟨st.toArray⟩,.int .u64 sum,v]] w fun e w' => e=.returned (.string ⟨(frPlain ⟨k,q,on,c,⟨sh,pr,si,st⟩,sum,tt⟩).toArray⟩)∧Below w.heap.size w w':=by
 obtain⟨h1,h4,h0,hs1,hr⟩:=frMay_iff.1 hm
 simp only at h1 h4 h0 hs1
 obtain⟨n,rfl⟩:=Int.eq_ofNat_of_zero_le h0
 have hn:n < 9223372036854775808:=by omega
 have hk:k=1∨k=2∨k=3∨k=4:=by omega
 unfold frRest at hr
 simp only at hr
 rcases hk with rfl | rfl | rfl | rfl
 ·simp only [if_true,Bool.and_eq_true,decide_eq_true_eq,List.length_eq_zero_iff] at hr
  obtain⟨rfl,rfl,hc,hvm⟩:=hr
  obtain⟨ta,tc,rfl,-⟩:=hv.open'
  cases on with
  | false =>
   simp only [Bool.false_eq_true,if_false] at hvm
   have hz2:=vSame_iff.1 hvm
   simp only [Val.zero,Val.mk.injEq] at hz2
   obtain⟨rfl,rfl,rfl,rfl⟩:=hz2
   exact rplain_1off n hn hc
  | true =>
   simp only [if_true] at hvm
   exact rplain_1on n hn hc hvm
 ·simp only [show ¬ (2:Int)=1 by omega,if_false,if_true,Bool.and_eq_true,decide_eq_true_eq,List.length_eq_zero_iff,Bool.not_eq_true',beq_iff_eq] at hr
  obtain⟨⟨rfl,rfl,hvm⟩,rfl⟩:=hr
  have hz2:=vSame_iff.1 hvm
  simp only [Val.zero,Val.mk.injEq] at hz2
  obtain⟨rfl,rfl,rfl,rfl⟩:=hz2
  obtain⟨ta,tc,rfl,-⟩:=hv.open'
  exact rplain_2 n hn hs
 ·simp only [show ¬ (3:Int)=1 by omega,show ¬ (3:Int)=2 by omega,if_false,if_true,Bool.and_eq_true,decide_eq_true_eq,List.length_eq_zero_iff,Bool.not_eq_true',beq_iff_eq] at hr
  obtain⟨⟨rfl,rfl,hvm⟩,rfl,hd⟩:=hr
  have hz2:=vSame_iff.1 hvm
  simp only [Val.zero,Val.mk.injEq] at hz2
  obtain⟨rfl,rfl,rfl,rfl⟩:=hz2
  exact rplain_3 n hn hv hsh hd
 ·simp only [show ¬ (4:Int)=1 by omega,show ¬ (4:Int)=2 by omega,show ¬ (4:Int)=3 by omega,if_false,Bool.and_eq_true,decide_eq_true_eq,List.length_eq_zero_iff,Bool.not_eq_true',beq_iff_eq] at hr
  obtain⟨⟨rfl,rfl,hvm⟩,rfl,rfl⟩:=hr
  have hz2:=vSame_iff.1 hvm
  simp only [Val.zero,Val.mk.injEq] at hz2
  obtain⟨rfl,rfl,rfl,rfl⟩:=hz2
  obtain⟨ta,tc,rfl,-⟩:=hv.open'
  exact rplain_4 n hn

theorem rfrenc_no {w:World} {v:Value} {k q sh pr si:Int} {on:Bool} {c st:List UInt8} {sum:Nat} {tt:List Row} (hv:Tab w v tt) (hsh:Short tt) (hc:c.length≤4294967296) (hst:st.length≤4294967296)  (hm:frMay ⟨k,q,on,c,⟨sh,pr,si,st⟩,sum,tt⟩=false) :
  Calls Tryz.prog 26 #[.agg #[.int .i64 k,.int .i64 q,.bool on,.string ⟨c.toArray⟩,.int .i64 sh,.int .i64 pr,.int .i64 si,.string ⟨st.toArray⟩,.int .u64 sum,v]] w fun e w' => e=.returned (.tuple #[.string ⟨#[]⟩,.int .i64 1])∧Below w.heap.size w w':=by
 have HSH:=hZq hsh
 have HM:=hZq hm
 obtain⟨ta,tc,rfl,-⟩:=hv.open'
 clear hm hsh
 obtain⟨FB,HB⟩:=ent1 w (.cells #[.int .i64 k,.int .i64 q,.bool on,.string ⟨c.toArray⟩,.int .i64 sh,.int .i64 pr,.int .i64 si,.string ⟨st.toArray⟩,.int .u64 sum,.slice ta tt.length tc] 56)
 have V:=hZq (hv.later HB.out)
 clear hv
 go_enter Tryz.func26,Tryz.ntmps26
 have FBo:=blk10 FB.out
 go_wp2_with fail
 clear FBo
 refine (rfrmay_any V.out HSH.out hc hst HM).mono ?_
 rintro e w2 ⟨rfl,b2⟩
 replace FB:=hZq (upQ FB.out b2)
 replace V:=hZq (V.out.later b2)
 replace HB:=hZq (below2Z HB.out b2)
 clear b2
 have FBo:=blk10 FB.out
 go_wp2_with fail
 clear FBo
 go_ret2
 exact⟨rfl,HB.out⟩

theorem rplain_eqF {w:World} {v:Value} {k q sh pr si:Int} {on:Bool} {c st:List UInt8} {sum:Nat} {tt:List Row} (hv:Tab w v tt) (hsh:Short tt) (hs:sum < 18446744073709551616) (hm:Hid (frMay ⟨k,q,on,c,⟨sh,pr,si,st⟩,sum,tt⟩=true)) {p:List UInt8} (h:Hid (frPlain ⟨k,q,on,c,⟨sh,pr,si,st⟩,sum,tt⟩=p)) :
  Calls Tryz.prog 55 #[.agg #[.int .i64 k,.int .i64 q,.bool on,.string ⟨c.toArray⟩,.int .i64 sh,.int .i64 pr,.int .i64 si,.string ⟨st.toArray⟩,.int .u64 sum,v]] w fun e w' => e=.returned (.string ⟨p.toArray⟩)∧Below w.heap.size w w':=by
 have:=rplain_any hv hsh hs hm.out
 rw [h.out] at this
 exact this

theorem rfrenc_yes {w:World} {v:Value} {k q sh pr si:Int} {on:Bool} {c st:List UInt8} {sum:Nat} {tt:List Row} (hv:Tab w v tt) (hsh:Short tt) (hc:c.length≤4294967296) (hst:st.length≤4294967296) (hs:sum < 18446744073709551616) (hm:frMay ⟨k,q,on,c,⟨sh,pr,si,st⟩,sum,tt⟩=true) :
  Calls Tryz.prog 26 #[.agg #[.int .i64 k,.int .i64 q,.bool on,.string ⟨c.toArray⟩,.int .i64 sh,.int .i64 pr,.int .i64 si,.string ⟨st.toArray⟩,.int .u64 sum,v]] w fun e w' => e=.returned (.tuple #[.string ⟨(cseal (frPlain ⟨k,q,on,c,⟨sh,pr,si,st⟩,sum,tt⟩)).toArray⟩,.int .i64 0])∧Below w.heap.size w w':=by
 have HSH:=hZq hsh
 have HM:=hZq hm
 obtain⟨ta,tc,rfl,-⟩:=hv.open'
 clear hm hsh
 have hpl:=(frPlain_len HM.out).2
 obtain⟨p,hp⟩ : ∃ p,frPlain ⟨k,q,on,c,⟨sh,pr,si,st⟩,sum,tt⟩=p:=⟨_,rfl⟩
 rw [hp] at hpl ⊢
 have HP:=hZq hp
 clear hp
 have hpl2:p.length≤4294967296:=by omega
 clear hpl
 obtain⟨FB,HB⟩:=ent1 w (.cells #[.int .i64 k,.int .i64 q,.bool on,.string ⟨c.toArray⟩,.int .i64 sh,.int .i64 pr,.int .i64 si,.string ⟨st.toArray⟩,.int .u64 sum,.slice ta tt.length tc] 56)
 have V:=hZq (hv.later HB.out)
 clear hv
 go_enter Tryz.func26,Tryz.ntmps26
 have FBo:=blk10 FB.out
 go_wp2_with fail
 clear FBo
 refine (rfrmay_any V.out HSH.out hc hst HM).mono ?_
 rintro e w2 ⟨rfl,b2⟩
 replace FB:=hZq (upQ FB.out b2)
 replace V:=hZq (V.out.later b2)
 replace HB:=hZq (below2Z HB.out b2)
 clear b2
 have FBo:=blk10 FB.out
 go_wp2_with fail
 clear FBo
 refine (rplain_eqF V.out HSH.out hs HM HP).mono ?_
 rintro e w3 ⟨rfl,b3⟩
 replace FB:=hZq (upQ FB.out b3)
 replace V:=hZq (V.out.later b3)
 replace HB:=hZq (below2Z HB.out b3)
 clear b3
 go_wp2_with fail
 refine (rseal_any p hpl2 _).mono ?_
 rintro e w4 ⟨rfl,b4⟩
 replace FB:=hZq (upQ FB.out b4)
 replace V:=hZq (V.out.later b4)
 replace HB:=hZq (below2Z HB.out b4)
 clear b4
 go_wp2_with fail
 go_ret2
 exact⟨rfl,HB.out⟩

theorem rfrenc_any {w:World} {v:Value} {k q sh pr si:Int} {on:Bool} {c st:List UInt8} {sum:Nat} {tt:List Row} (hv:Tab w v tt) (hsh:Short tt) (hc:c.length≤4294967296) (hst:st.length≤4294967296) (hs:sum < 18446744073709551616) {l:List UInt8} {er:Nat} (h:Hid (frEnc ⟨k,q,on,c,⟨sh,pr,si,st⟩,sum,tt⟩=(l,er))) :
  Calls Tryz.prog 26 #[.agg #[.int .i64 k,.int .i64 q,.bool on,.string ⟨c.toArray⟩,.int .i64 sh,.int .i64 pr,.int .i64 si,.string ⟨st.toArray⟩,.int .u64 sum,v]] w fun e w' => e=.returned (.tuple #[.string ⟨l.toArray⟩,.int .i64 er])∧Below w.heap.size w w':=by
 have e:=h.out
 unfold frEnc at e
 cases hm:frMay ⟨k,q,on,c,⟨sh,pr,si,st⟩,sum,tt⟩ with
 | false =>
  rw [if_neg (by simp [hm])] at e
  simp only [Prod.mk.injEq] at e
  obtain⟨rfl,rfl⟩:=e
  exact rfrenc_no hv hsh hc hst hm
 | true =>
  rw [if_pos hm] at e
  simp only [Prod.mk.injEq] at e
  obtain⟨rfl,rfl⟩:=e
  exact rfrenc_yes hv hsh hc hst hs hm
end Go.Proofs.YtmpigdokghngiaaGreat
