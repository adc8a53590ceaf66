/-
 TEXTS OF THE PROOF, one behind the other: FraRput.
-/
import Derived.Test.YtmpigdokghngiaaGreatQ05
import Derived.Test.YtmpigdokghngiaaGreatQ18
import Derived.Test.YtmpigdokghngiaaGreatQ07
import Derived.Test.YtmpigdokghngiaaGreatQ02
import Derived.Test.YtmpigdokghngiaaGreatQ12
import Derived.Deep.RegionLaw

set_option maxHeartbeats 12800000
set_option maxRecDepth 100000

namespace Go.Proofs.YtmpigdokghngiaaGreat
open Go.RowKit

attribute [local go_sem] ByteArray.mk_append_mk

theorem rplain_4 {w:World} {ta:Option Addr} {tc:Nat}  (n:Nat) (hn:n < 9223372036854775808)  :
  Calls Tryz.prog 55 #[.agg #[.int .i64 4,.int .i64 n,.bool false,.string ⟨#[]⟩,.int .i64 0,.int .i64 0,.int .i64 0,.string ⟨#[]⟩,.int .u64 0,.slice ta 0 tc]] w fun e w' => e=.returned (.string ⟨(frPlain ⟨4,n,false,[],Val.zero,0,[]⟩).toArray⟩)∧Below w.heap.size w w':=by
 have HP:=hZq (rput_any n (by omega))
 have hvl:=vput_len_le n
 have hz0:(0:Int)≤n:=by omega
 have e4:IntKind.u64.wrap (n:Int)=n:=by rw [IntKind.wrap_u64]; omega
 have e1:IntKind.u8.wrap 4=4:=by decide
 have hcv:=fun w B => run_convert_one (P:=Tryz.prog) w 118 5 9 Tryz.underlying118 Tryz.underlying5 Tryz.underlying9 B (u8of 4) 4 (by decide)
 obtain⟨hd,hhd⟩ : ∃ hd,hd=[u8of 4]:=⟨_,rfl⟩
 rw [← hhd] at hcv
 have hdl:hd.length≤1:=by rw [hhd]; simp
 obtain⟨vn,hvn⟩ : ∃ vn,vput n=vn:=⟨_,rfl⟩
 rw [hvn] at HP hvl
 have HR:Hid (frPlain ⟨4,n,false,[],Val.zero,0,[]⟩=hd ++ vn):=hZq (by unfold frPlain frBody; rw [hhd]; simp [hvn])
 clear hhd hvn hn
 rw [HR.out]
 clear HR
 have hbig:¬ 9223372036854775807 < hd.length+vn.length:=by omega
 obtain⟨FB,HB⟩:=ent1 w (.cells #[.int .i64 4,.int .i64 n,.bool false,.string ⟨#[]⟩,.int .i64 0,.int .i64 0,.int .i64 0,.string ⟨#[]⟩,.int .u64 0,.slice ta 0 tc] 56)
 go_enter Tryz.func55,Tryz.ntmps55
 have FBo:=blk10 FB.out
 go_wp2_with fail
 clear FBo
 generalize w.alloc (.cells #[.int .i64 4,.int .i64 n,.bool false,.string ⟨#[]⟩,.int .i64 0,.int .i64 0,.int .i64 0,.string ⟨#[]⟩,.int .u64 0,.slice ta 0 tc] 56)=w2 at FB HB ⊢
 obtain⟨BS,hBS⟩ : ∃ BS:List (Nat × List Value),BS=[(w.heap.size,[.int .i64 4,.int .i64 n,.bool false,.string ⟨#[]⟩,.int .i64 0,.int .i64 0,.int .i64 0,.string ⟨#[]⟩,.int .u64 0,.slice ta 0 tc])]:=⟨_,rfl⟩
 have D0:=hZq (show heldB w2 BS from by rw [hBS]; exact heldB_cons (cellsAt_block FB.out) (heldB_nil _))
 have hL:=heldB_at (b:=w.heap.size) (vs:=[.int .i64 4,.int .i64 n,.bool false,.string ⟨#[]⟩,.int .i64 0,.int .i64 0,.int .i64 0,.string ⟨#[]⟩,.int .u64 0,.slice ta 0 tc]) (bs:=BS) (by rw [hBS]; simp)
 have hq0:=hL 0 _ rfl
 have hq1:=hL 1 _ rfl
 have hq2:=hL 2 _ rfl
 have hq3:=hL 3 _ rfl
 have hq4:=hL 4 _ rfl
 have hq5:=hL 5 _ rfl
 have hq6:=hL 6 _ rfl
 have hq7:=hL 7 _ rfl
 have hq8:=hL 8 _ rfl
 have hq9:=hL 9 _ rfl
 clear hL
 clear hBS
 have K0:Hid (Below w2.heap.size w2 w2.drew):=hZq (Below.refl _ _).drew
 refine wp_region_held_drew (S:=(fun X => heldB X BS)) (by kernel_rfl) ?_ (fun hHeld => ?_)
 ·exact heldB_up K0.out D0.out
 generalize w2.drew=z0 at K0 hHeld ⊢
 refine tkZ 0 ?_
 refine tkZ 1 ?_
 refine tkZ 2 ?_
 refine tkZ 5 ?_
 refine tkZ 6 ?_
 refine tkZ 7 ?_
 refine wpAnyH_ready (rs:=[3,8]) (by as_aux_lemma => kernel_rfl) (by simp) ?_
 refine AllReadyH.cons rfl (fun Kx hK => ?_) (AllReadyH.cons rfl (fun Kx hK => ?_) (AllReadyH.nil))
 ·go_simp
  refine hK.out _ _ ?_ (fun hHeld2 => ?_)
  ·exact heldB_up (below2Z K0.out (bl_newZ _ _)) D0.out
  clear hK Kx hHeld
  have hHeld:=hHeld2
  clear hHeld2
  try simp only [Act.put,List.setIfInBounds_toArray,List.set_cons_zero,List.set_cons_succ]
  have bz1:=bl_newZ z0 (.cells #[.int .u8 4] 5)
  have K1:=hZq (below2Z K0.out bz1)
  have D1:=hZq (heldB_up K1.out D0.out)
  have nz1:=hZq ((MapKept.heap_alloc z0 (.cells #[.int .u8 4] 5)).1)
  have hB1:w2.heap.size≤z0.heap.size:=(K0.out).size
  clear bz1
  generalize z0.alloc (.cells #[.int .u8 4] 5)=z1 at K1 D1 nz1 hHeld ⊢
  generalize z0.heap.size=B1 at nz1 hB1  ⊢
  have hcx:=hcv _ _ (cell_of_row _ _ 0 _ _ (0,0) nz1.out)
  refine wpAnyH_ready (rs:=[4,8]) (by as_aux_lemma => kernel_rfl) (by simp) ?_
  refine AllReadyH.cons rfl (fun Kx hK => ?_) (AllReadyH.cons rfl (fun Kx hK => ?_) (AllReadyH.nil))
  ·go_simp
   refine hK.out _ _ ?_ (fun hHeld2 => ?_)
   ·exact heldB_up K1.out D0.out
   clear hK Kx hHeld hcx
   have hHeld:=hHeld2
   clear hHeld2
   try simp only [Act.put,List.setIfInBounds_toArray,List.set_cons_zero,List.set_cons_succ]
   refine wpAnyH_ready (rs:=[8]) (by as_aux_lemma => kernel_rfl) (by simp) ?_
   refine AllReadyH.cons rfl (fun Kx hK => ?_) AllReadyH.nil
   go_simp
   refine (HP.out _).mono ?_
   rintro e z3 ⟨rfl,bz3⟩
   have K3:=hZq (below2Z K1.out bz3)
   have D3:=hZq (heldB_up K3.out D0.out)
   replace nz1:=hZq (((bz3).block _ (Array.getElem?_eq_some_iff.1 (nz1.out)).1).trans (nz1.out))
   clear bz3
   go_wp2_with fail
   refine hK.out _ _ ?_ (fun hHeld2 => ?_)
   ·exact D3.out
   clear hK Kx hHeld
   have hHeld:=hHeld2
   clear hHeld2
   try simp only [Act.put,List.setIfInBounds_toArray,List.set_cons_zero,List.set_cons_succ]
   refine tkZ 9 ?_
   refine tkZ 10 ?_
   refine wpAnyH_done (by kernel_rfl) ?_ _
   clear D0
   replace FB:=hZq (upQ FB.out (K3.out))
   replace HB:=hZq (below2Z HB.out (K3.out))
   have FBo:=blk10 FB.out
   go_wp2_with fail
   clear FBo
   go_ret
   exact⟨rfl,HB.out⟩
  ·go_simp
   refine (HP.out _).mono ?_
   rintro e z4 ⟨rfl,bz4⟩
   have K4:=hZq (below2Z K1.out bz4)
   have D4:=hZq (heldB_up K4.out D0.out)
   replace nz1:=hZq (((bz4).block _ (Array.getElem?_eq_some_iff.1 (nz1.out)).1).trans (nz1.out))
   clear bz4
   go_wp2_with fail
   refine hK.out _ _ ?_ (fun hHeld2 => ?_)
   ·exact D4.out
   clear hK Kx hHeld
   have hHeld:=hHeld2
   clear hHeld2
   try simp only [Act.put,List.setIfInBounds_toArray,List.set_cons_zero,List.set_cons_succ]
   have hcx:=hcv _ _ (cell_of_row _ _ 0 _ _ (0,0) nz1.out)
   refine wpAnyH_ready (rs:=[4]) (by as_aux_lemma => kernel_rfl) (by simp) ?_
   refine AllReadyH.cons rfl (fun Kx hK => ?_) AllReadyH.nil
   go_simp
   refine hK.out _ _ ?_ (fun hHeld2 => ?_)
   ·exact heldB_up K4.out D0.out
   clear hK Kx hHeld hcx
   have hHeld:=hHeld2
   clear hHeld2
   try simp only [Act.put,List.setIfInBounds_toArray,List.set_cons_zero,List.set_cons_succ]
   refine tkZ 9 ?_
   refine tkZ 10 ?_
   refine wpAnyH_done (by kernel_rfl) ?_ _
   clear D0
   replace FB:=hZq (upQ FB.out (K4.out))
   replace HB:=hZq (below2Z HB.out (K4.out))
   have FBo:=blk10 FB.out
   go_wp2_with fail
   clear FBo
   go_ret
   exact⟨rfl,HB.out⟩
 ·go_simp
  refine (HP.out _).mono ?_
  rintro e z6 ⟨rfl,bz6⟩
  have K6:=hZq (below2Z K0.out bz6)
  have D6:=hZq (heldB_up K6.out D0.out)
  clear bz6
  go_wp2_with fail
  refine hK.out _ _ ?_ (fun hHeld2 => ?_)
  ·exact D6.out
  clear hK Kx hHeld
  have hHeld:=hHeld2
  clear hHeld2
  try simp only [Act.put,List.setIfInBounds_toArray,List.set_cons_zero,List.set_cons_succ]
  refine wpAnyH_ready (rs:=[3]) (by as_aux_lemma => kernel_rfl) (by simp) ?_
  refine AllReadyH.cons rfl (fun Kx hK => ?_) AllReadyH.nil
  go_simp
  refine hK.out _ _ ?_ (fun hHeld2 => ?_)
  ·exact heldB_up (below2Z K6.out (bl_newZ _ _)) D0.out
  clear hK Kx hHeld
  have hHeld:=hHeld2
  clear hHeld2
  try simp only [Act.put,List.setIfInBounds_toArray,List.set_cons_zero,List.set_cons_succ]
  have bz7:=bl_newZ z6 (.cells #[.int .u8 4] 5)
  have K7:=hZq (below2Z K6.out bz7)
  have D7:=hZq (heldB_up K7.out D0.out)
  have nz7:=hZq ((MapKept.heap_alloc z6 (.cells #[.int .u8 4] 5)).1)
  have hB7:w2.heap.size≤z6.heap.size:=(K6.out).size
  clear bz7
  generalize z6.alloc (.cells #[.int .u8 4] 5)=z7 at K7 D7 nz7 hHeld ⊢
  generalize z6.heap.size=B7 at nz7 hB7  ⊢
  have hcx:=hcv _ _ (cell_of_row _ _ 0 _ _ (0,0) nz7.out)
  refine wpAnyH_ready (rs:=[4]) (by as_aux_lemma => kernel_rfl) (by simp) ?_
  refine AllReadyH.cons rfl (fun Kx hK => ?_) AllReadyH.nil
  go_simp
  refine hK.out _ _ ?_ (fun hHeld2 => ?_)
  ·exact heldB_up K7.out D0.out
  clear hK Kx hHeld hcx
  have hHeld:=hHeld2
  clear hHeld2
  try simp only [Act.put,List.setIfInBounds_toArray,List.set_cons_zero,List.set_cons_succ]
  refine tkZ 9 ?_
  refine tkZ 10 ?_
  refine wpAnyH_done (by kernel_rfl) ?_ _
  clear D0
  replace FB:=hZq (upQ FB.out (K7.out))
  replace HB:=hZq (below2Z HB.out (K7.out))
  have FBo:=blk10 FB.out
  go_wp2_with fail
  clear FBo
  go_ret
  exact⟨rfl,HB.out⟩
end Go.Proofs.YtmpigdokghngiaaGreat
