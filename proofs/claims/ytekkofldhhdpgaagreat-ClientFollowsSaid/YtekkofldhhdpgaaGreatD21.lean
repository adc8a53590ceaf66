/-
 TEXTS OF THE PROOF, one behind the other: FraTkAt.
-/
import Derived.Test.YtekkofldhhdpgaaGreatD20
import Derived.Deep.RegionHeld
import Derived.Deep.RegionLaw

set_option maxHeartbeats 12800000
set_option maxRecDepth 100000

namespace Go.Proofs.YtekkofldhhdpgaaGreat
open Go.RowKit

theorem wrap_i64F (n:Int):IntKind.i64.wrap n=wrap64 n:=by
 unfold IntKind.wrap wrap64
 simp only [IntKind.signed,IntKind.bits]
 simp
 all_goals (try split <;> omega)

theorem heldB_farF {X W:World} {bs:List (Nat × List Value)} {B:Nat} (h:heldB X bs) (hfar:∀ k,¬ k=B→W.heap[k]?=X.heap[k]?) (hn:∀ p ∈ bs,¬ p.1=B):heldB W bs:=fun p hp j u hu =>
 (World.cell?_of_block (hfar p.1 (hn p hp))).trans (h p hp j u hu)

theorem ownR_far10 {w:World} {base:Nat} {v:Value} {t:List Row} (h:OwnR w base v t) {B:Nat} (hB:B < base) (a0 a1 a2 a3 a4 a5 a6 a7 a8 a9:Value):OwnR (stN10 w B a0 a1 a2 a3 a4 a5 a6 a7 a8 a9) base v t:=by
 refine ⟨h.1,?_⟩
 rcases h.2 with h' | ⟨g,cap,cur,h1,h2,h3,h4⟩
 ·exact .inl h'
 ·exact .inr ⟨g,cap,cur,h1,h2,(stN10_far w B a0 a1 a2 a3 a4 a5 a6 a7 a8 a9 (by omega)).trans h3,h4⟩

theorem ownR_other {w:World} {base:Nat} {v:Value} {t:List Row} (h:OwnR w base v t) {B:Nat} {cs:Array Value} {T:TypeId} (hT:T ≠ 93) (hB:w.heap[B]?=some (.cells cs T (0,0))) {W:World} (hfar:∀ k,¬ k=B→W.heap[k]?=w.heap[k]?):OwnR W base v t:=by
 refine ⟨h.1,?_⟩
 rcases h.2 with h' | ⟨g,cap,cur,h1,h2,h3,h4⟩
 ·exact .inl h'
 ·have hne:¬ g=B:=by
   rintro rfl
   rw [hB] at h3
   simp only [Option.some.injEq,Obj.cells.injEq] at h3
   exact hT h3.2.1
  exact .inr ⟨g,cap,cur,h1,h2,(hfar g hne).trans h3,h4⟩

theorem take_atk {k F:Nat} {fu:Value} (h1:1≤k) (h4:k≤4) (HI:Hid (∀ w,Calls Tryz.prog 99 #[.int .i64 (k:Int)] w fun e w' => e=.returned (.bool true)∧w=w'))
  (hix:∀ w,(Instr.index 130 kindsV (.int .u8 (k:Int))).run Tryz.prog w=.ok fu w) (hfd:∀ w,(Instr.field 129 fu 2).run Tryz.prog w=.ok (.func (.func F) #[] #[]) w) (hcf:∀ (xs:Array Value) (X:World),(callFunc F xs).run Tryz.prog X=.ok (.enter F xs) X)
  (x:UInt8) (hx:x.toNat=k) (b:List UInt8) (hb:(x :: b).length≤4294967296) {n f:Nat} (HG:Hid (vget (x :: b) 1=(n,f,0))) {og:Option Frm} {g:Frm} {ok:Bool} (hg:og.getD Frm.zero=g) (hok:og.isSome=ok) (HQ:Hid (tkAll (x :: b)=(og,(k:Int),IntKind.i64.wrap (n:Int))))
  (HT:Hid (∀ w,Calls Tryz.prog F #[.string ⟨((x :: b).drop f).toArray⟩] w fun e w' => ∃ v,e=.returned (.tuple #[.agg #[.int .i64 g.k,.int .i64 g.s,.bool g.on,.string ⟨g.c.toArray⟩,.int .i64 g.v.sh,.int .i64 g.v.pr,.int .i64 g.v.si,.string ⟨g.v.st.toArray⟩,.int .u64 g.sum,v],.bool ok])∧OwnR w' w.heap.size v g.t∧Below w.heap.size w w')) (w:World) :
  Calls Tryz.prog 93 #[.string ⟨(x :: b).toArray⟩] w (TookA (tkAll (x :: b)) w):=by
 have HGET:=hZq fun w => get_eq (x :: b) hb 1 w HG
 obtain⟨b2,hb2e⟩ : ∃ b2,(x :: b).drop f=b2:=⟨_,rfl⟩
 have hf:=(vget_facts HG.out).2.1
 have hsl:=fun w => run_slice_bytes_from (P:=Tryz.prog) w 9 (x :: b) f (f:Int) rfl Tryz.underlying9 hf
 rw [hb2e] at hsl HT
 have hx0:0 < (⟨(x :: b).toArray⟩ : ByteArray).size:=by rw [size_bytes]; simp
 have hxk:((⟨(x :: b).toArray⟩ : ByteArray)[0]'hx0).toNat=k:=hx
 have hkw:IntKind.i64.wrap (k:Int)=k:=IntWalk.i64_in _ (by omega)
 have hkw2:wrap64 (k:Int)=k:=by rw [← wrap_i64F]; exact hkw
 have HKD:=hZq kindsF_any
 have HQ2:Hid (tkAll (x :: b)=(og,(k:Int),wrap64 (n:Int))):=hZq (by rw [HQ.out,wrap_i64F])
 clear HQ
 have HQ:=HQ2
 clear HQ2 hx hb2e
 have b0:=bl_newZ w (.cells #[.int .i64 0,.int .i64 0,.bool false,.string ⟨#[]⟩,.int .i64 0,.int .i64 0,.int .i64 0,.string ⟨#[]⟩,.int .u64 0,.slice none 0 0] 29)
 have HB:=hZq b0
 have R:=newQ w (.cells #[.int .i64 0,.int .i64 0,.bool false,.string ⟨#[]⟩,.int .i64 0,.int .i64 0,.int .i64 0,.string ⟨#[]⟩,.int .u64 0,.slice none 0 0] 29)
 replace R:=hZq R
 clear b0
 go_enter Tryz.func93,Tryz.ntmps93
 go_wp2_with fail
 refine (HI.out _).mono ?_
 rintro e wp ⟨rfl,rfl⟩
 go_wp2_with fail
 refine (HGET.out _).mono ?_
 rintro e wp ⟨rfl,rfl⟩
 generalize w.alloc (.cells #[.int .i64 0,.int .i64 0,.bool false,.string ⟨#[]⟩,.int .i64 0,.int .i64 0,.int .i64 0,.string ⟨#[]⟩,.int .u64 0,.slice none 0 0] 29)=w2 at R HB ⊢
 go_wp2_with fail
 have hRl:=(Array.getElem?_eq_some_iff.1 R.out).1
 obtain⟨BS,hBS⟩ : ∃ BS:List (Nat × List Value),BS=[(w.heap.size,[.int .i64 0,.int .i64 0,.bool false,.string ⟨#[]⟩,.int .i64 0,.int .i64 0,.int .i64 0,.string ⟨#[]⟩,.int .u64 0,.slice none 0 0])]:=⟨_,rfl⟩
 have D0:=hZq (show heldB w2 BS from by rw [hBS]; exact heldB_cons (cellsAt_block R.out) (heldB_nil _))
 have hq0:∀ X,heldB X BS→X.cell? ⟨w.heap.size,0,none⟩=some (.int .i64 0):=fun X hx => heldB_get (vs:=[.int .i64 0,.int .i64 0,.bool false,.string ⟨#[]⟩,.int .i64 0,.int .i64 0,.int .i64 0,.string ⟨#[]⟩,.int .u64 0,.slice none 0 0]) hx (by rw [hBS]; simp) rfl
 have hq1:∀ X,heldB X BS→X.cell? ⟨w.heap.size,1,none⟩=some (.int .i64 0):=fun X hx => heldB_get (vs:=[.int .i64 0,.int .i64 0,.bool false,.string ⟨#[]⟩,.int .i64 0,.int .i64 0,.int .i64 0,.string ⟨#[]⟩,.int .u64 0,.slice none 0 0]) hx (by rw [hBS]; simp) rfl
 have hq2:∀ X,heldB X BS→X.cell? ⟨w.heap.size,2,none⟩=some (.bool false):=fun X hx => heldB_get (vs:=[.int .i64 0,.int .i64 0,.bool false,.string ⟨#[]⟩,.int .i64 0,.int .i64 0,.int .i64 0,.string ⟨#[]⟩,.int .u64 0,.slice none 0 0]) hx (by rw [hBS]; simp) rfl
 have hq3:∀ X,heldB X BS→X.cell? ⟨w.heap.size,3,none⟩=some (.string ⟨#[]⟩):=fun X hx => heldB_get (vs:=[.int .i64 0,.int .i64 0,.bool false,.string ⟨#[]⟩,.int .i64 0,.int .i64 0,.int .i64 0,.string ⟨#[]⟩,.int .u64 0,.slice none 0 0]) hx (by rw [hBS]; simp) rfl
 have hq4:∀ X,heldB X BS→X.cell? ⟨w.heap.size,4,none⟩=some (.int .i64 0):=fun X hx => heldB_get (vs:=[.int .i64 0,.int .i64 0,.bool false,.string ⟨#[]⟩,.int .i64 0,.int .i64 0,.int .i64 0,.string ⟨#[]⟩,.int .u64 0,.slice none 0 0]) hx (by rw [hBS]; simp) rfl
 have hq5:∀ X,heldB X BS→X.cell? ⟨w.heap.size,5,none⟩=some (.int .i64 0):=fun X hx => heldB_get (vs:=[.int .i64 0,.int .i64 0,.bool false,.string ⟨#[]⟩,.int .i64 0,.int .i64 0,.int .i64 0,.string ⟨#[]⟩,.int .u64 0,.slice none 0 0]) hx (by rw [hBS]; simp) rfl
 have hq6:∀ X,heldB X BS→X.cell? ⟨w.heap.size,6,none⟩=some (.int .i64 0):=fun X hx => heldB_get (vs:=[.int .i64 0,.int .i64 0,.bool false,.string ⟨#[]⟩,.int .i64 0,.int .i64 0,.int .i64 0,.string ⟨#[]⟩,.int .u64 0,.slice none 0 0]) hx (by rw [hBS]; simp) rfl
 have hq7:∀ X,heldB X BS→X.cell? ⟨w.heap.size,7,none⟩=some (.string ⟨#[]⟩):=fun X hx => heldB_get (vs:=[.int .i64 0,.int .i64 0,.bool false,.string ⟨#[]⟩,.int .i64 0,.int .i64 0,.int .i64 0,.string ⟨#[]⟩,.int .u64 0,.slice none 0 0]) hx (by rw [hBS]; simp) rfl
 have hq8:∀ X,heldB X BS→X.cell? ⟨w.heap.size,8,none⟩=some (.int .u64 0):=fun X hx => heldB_get (vs:=[.int .i64 0,.int .i64 0,.bool false,.string ⟨#[]⟩,.int .i64 0,.int .i64 0,.int .i64 0,.string ⟨#[]⟩,.int .u64 0,.slice none 0 0]) hx (by rw [hBS]; simp) rfl
 have hq9:∀ X,heldB X BS→X.cell? ⟨w.heap.size,9,none⟩=some (.slice none 0 0):=fun X hx => heldB_get (vs:=[.int .i64 0,.int .i64 0,.bool false,.string ⟨#[]⟩,.int .i64 0,.int .i64 0,.int .i64 0,.string ⟨#[]⟩,.int .u64 0,.slice none 0 0]) hx (by rw [hBS]; simp) rfl
 have hBN:∀ p ∈ BS,p.1=w.heap.size:=by rw [hBS]; intro p hp; simp only [List.mem_cons,List.not_mem_nil,or_false] at hp; subst hp; rfl
 clear hBS
 have K0:Hid (Below w2.heap.size w2 w2.drew):=hZq (Below.refl _ _).drew
 refine wp_region_held_drew (S:=(fun X => heldB X BS)) (by kernel_rfl) ?_ (fun hHeld => ?_)
 ·exact heldB_up K0.out D0.out
 generalize w2.drew=z0 at K0 hHeld ⊢
 refine wpAnyH_take (i:=1) (oi:=⟨some 30,.move (.tmp 0),9,"frame.go:96",#[],none⟩) (v:=?_) rfl (by as_aux_lemma => kernel_rfl) (by as_aux_lemma => kernel_rfl) (by as_aux_lemma => kernel_rfl) (fun _ _ _ h => h) (Or.inl ⟨by rfl,?_⟩) (by assumption) ?_
 rotate_left
 ·intro w' hSw
  try dsimp only at hSw
  go_simp
  try with_reducible rfl
 try simp only [Act.put,List.setIfInBounds_toArray,List.set_cons_zero,List.set_cons_succ]
 refine wpAnyH_take (i:=2) (oi:=⟨some 31,.index 9 (.tmp 30) (.const (.int .i64 0)),5,"frame.go:96",#[⟨1,.data⟩],none⟩) (v:=?_) rfl (by as_aux_lemma => kernel_rfl) (by as_aux_lemma => kernel_rfl) (by as_aux_lemma => kernel_rfl) (fun _ _ _ h => h) (Or.inl ⟨by rfl,?_⟩) (by assumption) ?_
 rotate_left
 ·intro w' hSw
  try dsimp only at hSw
  go_simp
  try with_reducible rfl
 try simp only [Act.put,List.setIfInBounds_toArray,List.set_cons_zero,List.set_cons_succ]
 refine wpAnyH_take (i:=5) (oi:=⟨some 34,.move (.tmp 0),9,"frame.go:96",#[],none⟩) (v:=?_) rfl (by as_aux_lemma => kernel_rfl) (by as_aux_lemma => kernel_rfl) (by as_aux_lemma => kernel_rfl) (fun _ _ _ h => h) (Or.inl ⟨by rfl,?_⟩) (by assumption) ?_
 rotate_left
 ·intro w' hSw
  try dsimp only at hSw
  go_simp
  try with_reducible rfl
 try simp only [Act.put,List.setIfInBounds_toArray,List.set_cons_zero,List.set_cons_succ]
 refine wpAnyH_take (i:=6) (oi:=⟨some 35,.move (.tmp 5),3,"frame.go:96",#[],none⟩) (v:=?_) rfl (by as_aux_lemma => kernel_rfl) (by as_aux_lemma => kernel_rfl) (by as_aux_lemma => kernel_rfl) (fun _ _ _ h => h) (Or.inl ⟨by rfl,?_⟩) (by assumption) ?_
 rotate_left
 ·intro w' hSw
  try dsimp only at hSw
  go_simp
  try with_reducible rfl
 try simp only [Act.put,List.setIfInBounds_toArray,List.set_cons_zero,List.set_cons_succ]
 refine wpAnyH_take (i:=7) (oi:=⟨some 36,.slice 9 (.tmp 34) (some (.tmp 35)) none none,9,"frame.go:96",#[⟨5,.data⟩,⟨6,.data⟩],none⟩) (v:=?_) rfl (by as_aux_lemma => kernel_rfl) (by as_aux_lemma => kernel_rfl) (by as_aux_lemma => kernel_rfl) (fun _ _ _ h => h) (Or.inl ⟨by rfl,?_⟩) (by assumption) ?_
 rotate_left
 ·intro w' hSw
  try dsimp only at hSw
  go_simp
  try with_reducible rfl
 try simp only [Act.put,List.setIfInBounds_toArray,List.set_cons_zero,List.set_cons_succ]
 refine wpAnyH_ready (rs:=[0,12]) (by as_aux_lemma => kernel_rfl) (by simp) ?_
 refine AllReadyH.cons (o:=⟨some 29,.call { callee:=.value (.func 100),args:=#[],argTypes:=#[] },130,"frame.go:96",#[],none⟩) rfl (fun Kx hK => ?_) (AllReadyH.cons (o:=⟨some 7,.alloc 29,0,"frame.go:96",#[],none⟩) rfl (fun Kx hK => ?_) (AllReadyH.nil))
 ·go_simp
  refine (HKD.out _).mono ?_
  rintro e z1 ⟨rfl,bz1⟩
  have K1:=hZq (below2Z K0.out bz1)
  have D1:=hZq (heldB_up K1.out D0.out)
  clear bz1
  go_wp2_with fail
  refine hK.out _ _ ?_ (fun hHeld2 => ?_)
  ·exact D1.out
  clear hK Kx hHeld
  have hHeld:=hHeld2
  clear hHeld2
  try simp only [Act.put,List.setIfInBounds_toArray,List.set_cons_zero,List.set_cons_succ]
  refine wpAnyH_take (i:=3) (oi:=⟨some 32,.index 130 (.tmp 29) (.tmp 31),129,"frame.go:96",#[⟨0,.data⟩,⟨2,.data⟩],none⟩) (v:=?_) rfl (by as_aux_lemma => kernel_rfl) (by as_aux_lemma => kernel_rfl) (by as_aux_lemma => kernel_rfl) (fun _ _ _ h => h) (Or.inl ⟨by rfl,?_⟩) (by assumption) ?_
  rotate_left
  ·intro w' hSw
   try dsimp only at hSw
   go_simp
   try with_reducible rfl
  try simp only [Act.put,List.setIfInBounds_toArray,List.set_cons_zero,List.set_cons_succ]
  refine wpAnyH_take (i:=4) (oi:=⟨some 33,.field 129 (.tmp 32) 2,127,"frame.go:96",#[⟨3,.data⟩],none⟩) (v:=?_) rfl (by as_aux_lemma => kernel_rfl) (by as_aux_lemma => kernel_rfl) (by as_aux_lemma => kernel_rfl) (fun _ _ _ h => h) (Or.inl ⟨by rfl,?_⟩) (by assumption) ?_
  rotate_left
  ·intro w' hSw
   try dsimp only at hSw
   go_simp
   try with_reducible rfl
  try simp only [Act.put,List.setIfInBounds_toArray,List.set_cons_zero,List.set_cons_succ]
  refine wpAnyH_ready (rs:=[8,12]) (by as_aux_lemma => kernel_rfl) (by simp) ?_
  refine AllReadyH.cons (o:=⟨some 37,.call { callee:=.value (.tmp 33),args:=#[.tmp 36],argTypes:=#[9] },126,"frame.go:96",#[⟨4,.data⟩,⟨7,.data⟩,⟨0,.chain⟩],none⟩) rfl (fun Kx hK => ?_) (AllReadyH.cons (o:=⟨some 7,.alloc 29,0,"frame.go:96",#[],none⟩) rfl (fun Kx hK => ?_) (AllReadyH.nil))
  ·go_simp
   refine (HT.out _).mono ?_
   rintro e z2 ⟨v,rfl,hov,bz2⟩
   have K2:=hZq (below2Z K1.out bz2)
   have D2:=hZq (heldB_up K2.out D0.out)
   obtain⟨va,vc,rfl,-⟩:=Tab.open' (OwnR.tab hov)
   have HOV:=hZq (OwnR.mono hov (Nat.le_trans HB.out.size (K1.out).size))
   clear hov
   clear bz2
   go_wp2_with fail
   refine hK.out _ _ ?_ (fun hHeld2 => ?_)
   ·exact D2.out
   clear hK Kx hHeld
   have hHeld:=hHeld2
   clear hHeld2
   try simp only [Act.put,List.setIfInBounds_toArray,List.set_cons_zero,List.set_cons_succ]
   refine wpAnyH_take (i:=9) (oi:=⟨some 28,.move (.tmp 37),126,"frame.go:96",#[⟨8,.data⟩],none⟩) (v:=?_) rfl (by as_aux_lemma => kernel_rfl) (by as_aux_lemma => kernel_rfl) (by as_aux_lemma => kernel_rfl) (fun _ _ _ h => h) (Or.inl ⟨by rfl,?_⟩) (by assumption) ?_
   rotate_left
   ·intro w' hSw
    try dsimp only at hSw
    go_simp
    try with_reducible rfl
   try simp only [Act.put,List.setIfInBounds_toArray,List.set_cons_zero,List.set_cons_succ]
   refine wpAnyH_take (i:=10) (oi:=⟨some 38,.extract (.tmp 28) 0,29,"frame.go:96",#[⟨9,.data⟩],none⟩) (v:=?_) rfl (by as_aux_lemma => kernel_rfl) (by as_aux_lemma => kernel_rfl) (by as_aux_lemma => kernel_rfl) (fun _ _ _ h => h) (Or.inl ⟨by rfl,?_⟩) (by assumption) ?_
   rotate_left
   ·intro w' hSw
    try dsimp only at hSw
    go_simp
    try with_reducible rfl
   try simp only [Act.put,List.setIfInBounds_toArray,List.set_cons_zero,List.set_cons_succ]
   refine wpAnyH_take (i:=11) (oi:=⟨some 39,.extract (.tmp 28) 1,4,"frame.go:96",#[⟨9,.data⟩,⟨13,.gcOnly .lateStores⟩],none⟩) (v:=?_) rfl (by as_aux_lemma => kernel_rfl) (by as_aux_lemma => kernel_rfl) (by as_aux_lemma => kernel_rfl) (fun _ _ _ h => h) (Or.inl ⟨by rfl,?_⟩) (by assumption) ?_
   rotate_left
   ·intro w' hSw
    try dsimp only at hSw
    go_simp
    try with_reducible rfl
   try simp only [Act.put,List.setIfInBounds_toArray,List.set_cons_zero,List.set_cons_succ]
   refine wpAnyH_ready (rs:=[12]) (by as_aux_lemma => kernel_rfl) (by simp) ?_
   refine AllReadyH.cons (o:=⟨some 7,.alloc 29,0,"frame.go:96",#[],none⟩) rfl (fun Kx hK => ?_) AllReadyH.nil
   go_simp
   refine hK.out _ _ ?_ (fun hHeld2 => ?_)
   ·exact heldB_up (below2Z K2.out (bl_newZ _ _)) D0.out
   clear hK Kx hHeld
   have hHeld:=hHeld2
   clear hHeld2
   try simp only [Act.put,List.setIfInBounds_toArray,List.set_cons_zero,List.set_cons_succ]
   have bz3:=bl_newZ z2 (.cells #[.int .i64 0,.int .i64 0,.bool false,.string ⟨#[]⟩,.int .i64 0,.int .i64 0,.int .i64 0,.string ⟨#[]⟩,.int .u64 0,.slice none 0 0] 29)
   have K3:=hZq (below2Z K2.out bz3)
   have D3:=hZq (heldB_up K3.out D0.out)
   have nz3:=hZq ((MapKept.heap_alloc z2 (.cells #[.int .i64 0,.int .i64 0,.bool false,.string ⟨#[]⟩,.int .i64 0,.int .i64 0,.int .i64 0,.string ⟨#[]⟩,.int .u64 0,.slice none 0 0] 29)).1)
   have hB3:w2.heap.size≤z2.heap.size:=(K2.out).size
   replace HOV:=hZq (OwnR.later HOV.out bz3)
   clear bz3
   generalize z2.alloc (.cells #[.int .i64 0,.int .i64 0,.bool false,.string ⟨#[]⟩,.int .i64 0,.int .i64 0,.int .i64 0,.string ⟨#[]⟩,.int .u64 0,.slice none 0 0] 29)=z3 at K3 D3 nz3 HOV hHeld ⊢
   generalize z2.heap.size=B3 at nz3 hB3  ⊢
   obtain⟨⟨c0,c1,c2,c3,c4,c5,c6,c7,c8,c9⟩,⟨g0,g1,g2,g3,g4,g5,g6,g7,g8,g9⟩⟩:=blk10 nz3.out
   refine wpAnyH_ready (rs:=[13]) (by as_aux_lemma => kernel_rfl) (by simp) ?_
   refine AllReadyH.cons (o:=⟨none,.store 29 (.tmp 7) (.tmp 38),0,"frame.go:96",#[⟨12,.data⟩,⟨10,.data⟩,⟨8,.chain⟩,⟨0,.phase⟩,⟨1,.phase⟩,⟨2,.phase⟩,⟨3,.phase⟩,⟨4,.phase⟩,⟨5,.phase⟩,⟨6,.phase⟩,⟨7,.phase⟩,⟨8,.phase⟩,⟨9,.phase⟩,⟨10,.phase⟩,⟨11,.textOnly .lateStores⟩,⟨12,.phase⟩],none⟩) rfl (fun Kx hK => ?_) AllReadyH.nil
   go_simp
   clear c0 c1 c2 c3 c4 c5 c6 c7 c8 c9 g0 g1 g2 g3 g4 g5 g6 g7 g8 g9
   have hBR:¬ w.heap.size=B3:=by omega
   have hBw:w.heap.size≤B3:=by omega
   have FZ:=hZq (stN10_heap nz3.out (.int .i64 g.k) (.int .i64 g.s) (.bool g.on) (.string ⟨g.c.toArray⟩) (.int .i64 g.v.sh) (.int .i64 g.v.pr) (.int .i64 g.v.si) (.string ⟨g.v.st.toArray⟩) (.int .u64 g.sum) (.slice va g.t.length vc))
   have RZ:=hZq ((stN10_far z3 B3 (.int .i64 g.k) (.int .i64 g.s) (.bool g.on) (.string ⟨g.c.toArray⟩) (.int .i64 g.v.sh) (.int .i64 g.v.pr) (.int .i64 g.v.si) (.string ⟨g.v.st.toArray⟩) (.int .u64 g.sum) (.slice va g.t.length vc) hBR).trans (upQ R.out (K3.out)))
   have HZ:=hZq (stN10_below (below2Z HB.out (K3.out)) hBw (.int .i64 g.k) (.int .i64 g.s) (.bool g.on) (.string ⟨g.c.toArray⟩) (.int .i64 g.v.sh) (.int .i64 g.v.pr) (.int .i64 g.v.si) (.string ⟨g.v.st.toArray⟩) (.int .u64 g.sum) (.slice va g.t.length vc))
   have DZ:=hZq (heldB_farF (heldB_up (K3.out) D0.out) (fun k hk => stN10_far z3 B3 (.int .i64 g.k) (.int .i64 g.s) (.bool g.on) (.string ⟨g.c.toArray⟩) (.int .i64 g.v.sh) (.int .i64 g.v.pr) (.int .i64 g.v.si) (.string ⟨g.v.st.toArray⟩) (.int .u64 g.sum) (.slice va g.t.length vc) hk) (fun p hp => by rw [hBN p hp]; exact hBR))
   have OZ:=hZq (ownR_other HOV.out (by decide) nz3.out (fun k hk => stN10_far z3 B3 (.int .i64 g.k) (.int .i64 g.s) (.bool g.on) (.string ⟨g.c.toArray⟩) (.int .i64 g.v.sh) (.int .i64 g.v.pr) (.int .i64 g.v.si) (.string ⟨g.v.st.toArray⟩) (.int .u64 g.sum) (.slice va g.t.length vc) hk))
   refine hK.out _ _ ?_ (fun hHeld2 => ?_)
   ·exact DZ.out
   clear hK Kx hHeld
   have hHeld:=hHeld2
   clear hHeld2
   obtain⟨zf,hzf⟩ : ∃ X,X=stN10 z3 B3 (.int .i64 g.k) (.int .i64 g.s) (.bool g.on) (.string ⟨g.c.toArray⟩) (.int .i64 g.v.sh) (.int .i64 g.v.pr) (.int .i64 g.v.si) (.string ⟨g.v.st.toArray⟩) (.int .u64 g.sum) (.slice va g.t.length vc):=⟨_,rfl⟩
   rw [← hzf] at FZ RZ HZ DZ OZ
   unfold stN10 at hzf
   simp only [← hzf] at hHeld ⊢
   clear hzf
   refine wpAnyH_take (i:=14) (oi:=⟨some 8,.assign (.tmp 39),4,"frame.go:96",#[⟨11,.data⟩,⟨13,.chain⟩,⟨0,.phase⟩,⟨1,.phase⟩,⟨2,.phase⟩,⟨3,.phase⟩,⟨4,.phase⟩,⟨5,.phase⟩,⟨6,.phase⟩,⟨7,.phase⟩,⟨8,.phase⟩,⟨9,.phase⟩,⟨10,.phase⟩,⟨11,.phase⟩,⟨12,.phase⟩,⟨13,.phase⟩],none⟩) (v:=?_) rfl (by as_aux_lemma => kernel_rfl) (by as_aux_lemma => kernel_rfl) (by as_aux_lemma => kernel_rfl) (fun _ _ _ h => h) (Or.inl ⟨by rfl,?_⟩) (by assumption) ?_
   rotate_left
   ·intro w' hSw
    try dsimp only at hSw
    go_simp
    try with_reducible rfl
   try simp only [Act.put,List.setIfInBounds_toArray,List.set_cons_zero,List.set_cons_succ]
   refine wpAnyH_done (by kernel_rfl) ?_ _
   obtain⟨⟨FZc0,FZc1,FZc2,FZc3,FZc4,FZc5,FZc6,FZc7,FZc8,FZc9⟩,⟨FZf0,FZf1,FZf2,FZf3,FZf4,FZf5,FZf6,FZf7,FZf8,FZf9⟩⟩:=blk10 FZ.out
   go_upto_region 8 with fail
   clear FZc0 FZc1 FZc2 FZc3 FZc4 FZc5 FZc6 FZc7 FZc8 FZc9 FZf0 FZf1 FZf2 FZf3 FZf4 FZf5 FZf6 FZf7 FZf8 FZf9
   have FY:=hZq (heap_setCell_same _ B3 1 _ _ (.int .i64 (wrap64 (n:Int))) (heap_setCell_same zf B3 0 _ _ (.int .i64 (k:Int)) FZ.out))
   have hfar2:∀ i9,¬ i9=B3→((zf.setCell ⟨B3,0,none⟩ (.int .i64 (k:Int))).setCell ⟨B3,1,none⟩ (.int .i64 (wrap64 (n:Int)))).heap[i9]?=zf.heap[i9]?:=fun i9 hk => (Below.heap_setCell _ _ _ i9 hk).trans (Below.heap_setCell _ _ _ i9 hk)
   have RY:=hZq ((hfar2 _ hBR).trans RZ.out)
   have OY:=hZq (ownR_other OZ.out (by decide) FZ.out hfar2)
   have HY:Hid (Below w.heap.size w ((zf.setCell ⟨B3,0,none⟩ (.int .i64 (k:Int))).setCell ⟨B3,1,none⟩ (.int .i64 (wrap64 (n:Int))))):=hZq ((HZ.out.setCell hBw _).setCell hBw _)
   clear FZ RZ OZ HZ DZ hfar2
   generalize (zf.setCell ⟨B3,0,none⟩ (.int .i64 (k:Int))).setCell ⟨B3,1,none⟩ (.int .i64 (wrap64 (n:Int)))=zy at FY RY OY HY ⊢
   have FY2:Hid (zy.heap[B3]?=some (.cells #[.int .i64 (k:Int),.int .i64 (wrap64 (n:Int)),.bool g.on,.string ⟨g.c.toArray⟩,.int .i64 g.v.sh,.int .i64 g.v.pr,.int .i64 g.v.si,.string ⟨g.v.st.toArray⟩,.int .u64 g.sum,.slice va g.t.length vc] 29 (0,0))):=FY
   clear FY
   have FY:=FY2
   clear FY2
   obtain⟨⟨FYc0,FYc1,FYc2,FYc3,FYc4,FYc5,FYc6,FYc7,FYc8,FYc9⟩,⟨FYf0,FYf1,FYf2,FYf3,FYf4,FYf5,FYf6,FYf7,FYf8,FYf9⟩⟩:=blk10 FY.out
   obtain⟨⟨RYc0,RYc1,RYc2,RYc3,RYc4,RYc5,RYc6,RYc7,RYc8,RYc9⟩,⟨RYf0,RYf1,RYf2,RYf3,RYf4,RYf5,RYf6,RYf7,RYf8,RYf9⟩⟩:=blk10 RY.out
   go_wp2_with fail
   clear FYc0 FYc1 FYc2 FYc3 FYc4 FYc5 FYc6 FYc7 FYc8 FYc9 FYf0 FYf1 FYf2 FYf3 FYf4 FYf5 FYf6 FYf7 FYf8 FYf9 RYc0 RYc1 RYc2 RYc3 RYc4 RYc5 RYc6 RYc7 RYc8 RYc9 RYf0 RYf1 RYf2 RYf3 RYf4 RYf5 RYf6 RYf7 RYf8 RYf9
   have RX:=hZq (stN10_heap RY.out (.int .i64 (k:Int)) (.int .i64 (wrap64 (n:Int))) (.bool g.on) (.string ⟨g.c.toArray⟩) (.int .i64 g.v.sh) (.int .i64 g.v.pr) (.int .i64 g.v.si) (.string ⟨g.v.st.toArray⟩) (.int .u64 g.sum) (.slice va g.t.length vc))
   have OX:=hZq (ownR_other OY.out (by decide) RY.out (fun _ hk => stN10_far zy w.heap.size (.int .i64 (k:Int)) (.int .i64 (wrap64 (n:Int))) (.bool g.on) (.string ⟨g.c.toArray⟩) (.int .i64 g.v.sh) (.int .i64 g.v.pr) (.int .i64 g.v.si) (.string ⟨g.v.st.toArray⟩) (.int .u64 g.sum) (.slice va g.t.length vc) hk))
   have HX:=hZq (stN10_below HY.out (Nat.le_refl _) (.int .i64 (k:Int)) (.int .i64 (wrap64 (n:Int))) (.bool g.on) (.string ⟨g.c.toArray⟩) (.int .i64 g.v.sh) (.int .i64 g.v.pr) (.int .i64 g.v.si) (.string ⟨g.v.st.toArray⟩) (.int .u64 g.sum) (.slice va g.t.length vc))
   obtain⟨zx,hzx⟩ : ∃ X,X=stN10 zy w.heap.size (.int .i64 (k:Int)) (.int .i64 (wrap64 (n:Int))) (.bool g.on) (.string ⟨g.c.toArray⟩) (.int .i64 g.v.sh) (.int .i64 g.v.pr) (.int .i64 g.v.si) (.string ⟨g.v.st.toArray⟩) (.int .u64 g.sum) (.slice va g.t.length vc):=⟨_,rfl⟩
   rw [← hzx] at RX OX HX
   unfold stN10 at hzx
   simp only [← hzx]
   clear hzx
   obtain⟨⟨y0,y1,y2,y3,y4,y5,y6,y7,y8,y9⟩,-⟩:=blk10 RX.out
   refine bodyPost_ret (v:=.tuple #[.agg #[.int .i64 (k:Int),.int .i64 (wrap64 (n:Int)),.bool g.on,.string ⟨g.c.toArray⟩,.int .i64 g.v.sh,.int .i64 g.v.pr,.int .i64 g.v.si,.string ⟨g.v.st.toArray⟩,.int .u64 g.sum,.slice va g.t.length vc],.bool ok]) (by simp [results,Tryz.results93,go_sem,y0,y1,y2,y3,y4,y5,y6,y7,y8,y9]) rfl ⟨.slice va g.t.length vc,by rw [HQ.out]; simp only [hg,hok,frAgg],by rw [HQ.out]; simp only [hg]; exact OX.out,HX.out⟩
  ·go_simp
   refine hK.out _ _ ?_ (fun hHeld2 => ?_)
   ·exact heldB_up (below2Z K1.out (bl_newZ _ _)) D0.out
   clear hK Kx hHeld
   have hHeld:=hHeld2
   clear hHeld2
   try simp only [Act.put,List.setIfInBounds_toArray,List.set_cons_zero,List.set_cons_succ]
   have bz5:=bl_newZ z1 (.cells #[.int .i64 0,.int .i64 0,.bool false,.string ⟨#[]⟩,.int .i64 0,.int .i64 0,.int .i64 0,.string ⟨#[]⟩,.int .u64 0,.slice none 0 0] 29)
   have K5:=hZq (below2Z K1.out bz5)
   have D5:=hZq (heldB_up K5.out D0.out)
   have nz5:=hZq ((MapKept.heap_alloc z1 (.cells #[.int .i64 0,.int .i64 0,.bool false,.string ⟨#[]⟩,.int .i64 0,.int .i64 0,.int .i64 0,.string ⟨#[]⟩,.int .u64 0,.slice none 0 0] 29)).1)
   have hB5:w2.heap.size≤z1.heap.size:=(K1.out).size
   clear bz5
   generalize z1.alloc (.cells #[.int .i64 0,.int .i64 0,.bool false,.string ⟨#[]⟩,.int .i64 0,.int .i64 0,.int .i64 0,.string ⟨#[]⟩,.int .u64 0,.slice none 0 0] 29)=z5 at K5 D5 nz5 hHeld ⊢
   generalize z1.heap.size=B5 at nz5 hB5  ⊢
   refine wpAnyH_ready (rs:=[8]) (by as_aux_lemma => kernel_rfl) (by simp) ?_
   refine AllReadyH.cons (o:=⟨some 37,.call { callee:=.value (.tmp 33),args:=#[.tmp 36],argTypes:=#[9] },126,"frame.go:96",#[⟨4,.data⟩,⟨7,.data⟩,⟨0,.chain⟩],none⟩) rfl (fun Kx hK => ?_) AllReadyH.nil
   go_simp
   refine (HT.out _).mono ?_
   rintro e z6 ⟨v,rfl,hov,bz6⟩
   have K6:=hZq (below2Z K5.out bz6)
   have D6:=hZq (heldB_up K6.out D0.out)
   replace nz5:=hZq (((bz6).block _ (Array.getElem?_eq_some_iff.1 (nz5.out)).1).trans (nz5.out))
   obtain⟨va,vc,rfl,-⟩:=Tab.open' (OwnR.tab hov)
   have HOV:=hZq (OwnR.mono hov (Nat.le_trans HB.out.size (K5.out).size))
   clear hov
   clear bz6
   go_wp2_with fail
   refine hK.out _ _ ?_ (fun hHeld2 => ?_)
   ·exact D6.out
   clear hK Kx hHeld
   have hHeld:=hHeld2
   clear hHeld2
   try simp only [Act.put,List.setIfInBounds_toArray,List.set_cons_zero,List.set_cons_succ]
   refine wpAnyH_take (i:=9) (oi:=⟨some 28,.move (.tmp 37),126,"frame.go:96",#[⟨8,.data⟩],none⟩) (v:=?_) rfl (by as_aux_lemma => kernel_rfl) (by as_aux_lemma => kernel_rfl) (by as_aux_lemma => kernel_rfl) (fun _ _ _ h => h) (Or.inl ⟨by rfl,?_⟩) (by assumption) ?_
   rotate_left
   ·intro w' hSw
    try dsimp only at hSw
    go_simp
    try with_reducible rfl
   try simp only [Act.put,List.setIfInBounds_toArray,List.set_cons_zero,List.set_cons_succ]
   refine wpAnyH_take (i:=10) (oi:=⟨some 38,.extract (.tmp 28) 0,29,"frame.go:96",#[⟨9,.data⟩],none⟩) (v:=?_) rfl (by as_aux_lemma => kernel_rfl) (by as_aux_lemma => kernel_rfl) (by as_aux_lemma => kernel_rfl) (fun _ _ _ h => h) (Or.inl ⟨by rfl,?_⟩) (by assumption) ?_
   rotate_left
   ·intro w' hSw
    try dsimp only at hSw
    go_simp
    try with_reducible rfl
   try simp only [Act.put,List.setIfInBounds_toArray,List.set_cons_zero,List.set_cons_succ]
   refine wpAnyH_take (i:=11) (oi:=⟨some 39,.extract (.tmp 28) 1,4,"frame.go:96",#[⟨9,.data⟩,⟨13,.gcOnly .lateStores⟩],none⟩) (v:=?_) rfl (by as_aux_lemma => kernel_rfl) (by as_aux_lemma => kernel_rfl) (by as_aux_lemma => kernel_rfl) (fun _ _ _ h => h) (Or.inl ⟨by rfl,?_⟩) (by assumption) ?_
   rotate_left
   ·intro w' hSw
    try dsimp only at hSw
    go_simp
    try with_reducible rfl
   try simp only [Act.put,List.setIfInBounds_toArray,List.set_cons_zero,List.set_cons_succ]
   obtain⟨⟨c0,c1,c2,c3,c4,c5,c6,c7,c8,c9⟩,⟨g0,g1,g2,g3,g4,g5,g6,g7,g8,g9⟩⟩:=blk10 nz5.out
   refine wpAnyH_ready (rs:=[13]) (by as_aux_lemma => kernel_rfl) (by simp) ?_
   refine AllReadyH.cons (o:=⟨none,.store 29 (.tmp 7) (.tmp 38),0,"frame.go:96",#[⟨12,.data⟩,⟨10,.data⟩,⟨8,.chain⟩,⟨0,.phase⟩,⟨1,.phase⟩,⟨2,.phase⟩,⟨3,.phase⟩,⟨4,.phase⟩,⟨5,.phase⟩,⟨6,.phase⟩,⟨7,.phase⟩,⟨8,.phase⟩,⟨9,.phase⟩,⟨10,.phase⟩,⟨11,.textOnly .lateStores⟩,⟨12,.phase⟩],none⟩) rfl (fun Kx hK => ?_) AllReadyH.nil
   go_simp
   clear c0 c1 c2 c3 c4 c5 c6 c7 c8 c9 g0 g1 g2 g3 g4 g5 g6 g7 g8 g9
   have hBR:¬ w.heap.size=B5:=by omega
   have hBw:w.heap.size≤B5:=by omega
   have FZ:=hZq (stN10_heap nz5.out (.int .i64 g.k) (.int .i64 g.s) (.bool g.on) (.string ⟨g.c.toArray⟩) (.int .i64 g.v.sh) (.int .i64 g.v.pr) (.int .i64 g.v.si) (.string ⟨g.v.st.toArray⟩) (.int .u64 g.sum) (.slice va g.t.length vc))
   have RZ:=hZq ((stN10_far z6 B5 (.int .i64 g.k) (.int .i64 g.s) (.bool g.on) (.string ⟨g.c.toArray⟩) (.int .i64 g.v.sh) (.int .i64 g.v.pr) (.int .i64 g.v.si) (.string ⟨g.v.st.toArray⟩) (.int .u64 g.sum) (.slice va g.t.length vc) hBR).trans (upQ R.out (K6.out)))
   have HZ:=hZq (stN10_below (below2Z HB.out (K6.out)) hBw (.int .i64 g.k) (.int .i64 g.s) (.bool g.on) (.string ⟨g.c.toArray⟩) (.int .i64 g.v.sh) (.int .i64 g.v.pr) (.int .i64 g.v.si) (.string ⟨g.v.st.toArray⟩) (.int .u64 g.sum) (.slice va g.t.length vc))
   have DZ:=hZq (heldB_farF (heldB_up (K6.out) D0.out) (fun k hk => stN10_far z6 B5 (.int .i64 g.k) (.int .i64 g.s) (.bool g.on) (.string ⟨g.c.toArray⟩) (.int .i64 g.v.sh) (.int .i64 g.v.pr) (.int .i64 g.v.si) (.string ⟨g.v.st.toArray⟩) (.int .u64 g.sum) (.slice va g.t.length vc) hk) (fun p hp => by rw [hBN p hp]; exact hBR))
   have OZ:=hZq (ownR_other HOV.out (by decide) nz5.out (fun k hk => stN10_far z6 B5 (.int .i64 g.k) (.int .i64 g.s) (.bool g.on) (.string ⟨g.c.toArray⟩) (.int .i64 g.v.sh) (.int .i64 g.v.pr) (.int .i64 g.v.si) (.string ⟨g.v.st.toArray⟩) (.int .u64 g.sum) (.slice va g.t.length vc) hk))
   refine hK.out _ _ ?_ (fun hHeld2 => ?_)
   ·exact DZ.out
   clear hK Kx hHeld
   have hHeld:=hHeld2
   clear hHeld2
   obtain⟨zf,hzf⟩ : ∃ X,X=stN10 z6 B5 (.int .i64 g.k) (.int .i64 g.s) (.bool g.on) (.string ⟨g.c.toArray⟩) (.int .i64 g.v.sh) (.int .i64 g.v.pr) (.int .i64 g.v.si) (.string ⟨g.v.st.toArray⟩) (.int .u64 g.sum) (.slice va g.t.length vc):=⟨_,rfl⟩
   rw [← hzf] at FZ RZ HZ DZ OZ
   unfold stN10 at hzf
   simp only [← hzf] at hHeld ⊢
   clear hzf
   refine wpAnyH_take (i:=14) (oi:=⟨some 8,.assign (.tmp 39),4,"frame.go:96",#[⟨11,.data⟩,⟨13,.chain⟩,⟨0,.phase⟩,⟨1,.phase⟩,⟨2,.phase⟩,⟨3,.phase⟩,⟨4,.phase⟩,⟨5,.phase⟩,⟨6,.phase⟩,⟨7,.phase⟩,⟨8,.phase⟩,⟨9,.phase⟩,⟨10,.phase⟩,⟨11,.phase⟩,⟨12,.phase⟩,⟨13,.phase⟩],none⟩) (v:=?_) rfl (by as_aux_lemma => kernel_rfl) (by as_aux_lemma => kernel_rfl) (by as_aux_lemma => kernel_rfl) (fun _ _ _ h => h) (Or.inl ⟨by rfl,?_⟩) (by assumption) ?_
   rotate_left
   ·intro w' hSw
    try dsimp only at hSw
    go_simp
    try with_reducible rfl
   try simp only [Act.put,List.setIfInBounds_toArray,List.set_cons_zero,List.set_cons_succ]
   refine wpAnyH_done (by kernel_rfl) ?_ _
   obtain⟨⟨FZc0,FZc1,FZc2,FZc3,FZc4,FZc5,FZc6,FZc7,FZc8,FZc9⟩,⟨FZf0,FZf1,FZf2,FZf3,FZf4,FZf5,FZf6,FZf7,FZf8,FZf9⟩⟩:=blk10 FZ.out
   go_upto_region 8 with fail
   clear FZc0 FZc1 FZc2 FZc3 FZc4 FZc5 FZc6 FZc7 FZc8 FZc9 FZf0 FZf1 FZf2 FZf3 FZf4 FZf5 FZf6 FZf7 FZf8 FZf9
   have FY:=hZq (heap_setCell_same _ B5 1 _ _ (.int .i64 (wrap64 (n:Int))) (heap_setCell_same zf B5 0 _ _ (.int .i64 (k:Int)) FZ.out))
   have hfar2:∀ i9,¬ i9=B5→((zf.setCell ⟨B5,0,none⟩ (.int .i64 (k:Int))).setCell ⟨B5,1,none⟩ (.int .i64 (wrap64 (n:Int)))).heap[i9]?=zf.heap[i9]?:=fun i9 hk => (Below.heap_setCell _ _ _ i9 hk).trans (Below.heap_setCell _ _ _ i9 hk)
   have RY:=hZq ((hfar2 _ hBR).trans RZ.out)
   have OY:=hZq (ownR_other OZ.out (by decide) FZ.out hfar2)
   have HY:Hid (Below w.heap.size w ((zf.setCell ⟨B5,0,none⟩ (.int .i64 (k:Int))).setCell ⟨B5,1,none⟩ (.int .i64 (wrap64 (n:Int))))):=hZq ((HZ.out.setCell hBw _).setCell hBw _)
   clear FZ RZ OZ HZ DZ hfar2
   generalize (zf.setCell ⟨B5,0,none⟩ (.int .i64 (k:Int))).setCell ⟨B5,1,none⟩ (.int .i64 (wrap64 (n:Int)))=zy at FY RY OY HY ⊢
   have FY2:Hid (zy.heap[B5]?=some (.cells #[.int .i64 (k:Int),.int .i64 (wrap64 (n:Int)),.bool g.on,.string ⟨g.c.toArray⟩,.int .i64 g.v.sh,.int .i64 g.v.pr,.int .i64 g.v.si,.string ⟨g.v.st.toArray⟩,.int .u64 g.sum,.slice va g.t.length vc] 29 (0,0))):=FY
   clear FY
   have FY:=FY2
   clear FY2
   obtain⟨⟨FYc0,FYc1,FYc2,FYc3,FYc4,FYc5,FYc6,FYc7,FYc8,FYc9⟩,⟨FYf0,FYf1,FYf2,FYf3,FYf4,FYf5,FYf6,FYf7,FYf8,FYf9⟩⟩:=blk10 FY.out
   obtain⟨⟨RYc0,RYc1,RYc2,RYc3,RYc4,RYc5,RYc6,RYc7,RYc8,RYc9⟩,⟨RYf0,RYf1,RYf2,RYf3,RYf4,RYf5,RYf6,RYf7,RYf8,RYf9⟩⟩:=blk10 RY.out
   go_wp2_with fail
   clear FYc0 FYc1 FYc2 FYc3 FYc4 FYc5 FYc6 FYc7 FYc8 FYc9 FYf0 FYf1 FYf2 FYf3 FYf4 FYf5 FYf6 FYf7 FYf8 FYf9 RYc0 RYc1 RYc2 RYc3 RYc4 RYc5 RYc6 RYc7 RYc8 RYc9 RYf0 RYf1 RYf2 RYf3 RYf4 RYf5 RYf6 RYf7 RYf8 RYf9
   have RX:=hZq (stN10_heap RY.out (.int .i64 (k:Int)) (.int .i64 (wrap64 (n:Int))) (.bool g.on) (.string ⟨g.c.toArray⟩) (.int .i64 g.v.sh) (.int .i64 g.v.pr) (.int .i64 g.v.si) (.string ⟨g.v.st.toArray⟩) (.int .u64 g.sum) (.slice va g.t.length vc))
   have OX:=hZq (ownR_other OY.out (by decide) RY.out (fun _ hk => stN10_far zy w.heap.size (.int .i64 (k:Int)) (.int .i64 (wrap64 (n:Int))) (.bool g.on) (.string ⟨g.c.toArray⟩) (.int .i64 g.v.sh) (.int .i64 g.v.pr) (.int .i64 g.v.si) (.string ⟨g.v.st.toArray⟩) (.int .u64 g.sum) (.slice va g.t.length vc) hk))
   have HX:=hZq (stN10_below HY.out (Nat.le_refl _) (.int .i64 (k:Int)) (.int .i64 (wrap64 (n:Int))) (.bool g.on) (.string ⟨g.c.toArray⟩) (.int .i64 g.v.sh) (.int .i64 g.v.pr) (.int .i64 g.v.si) (.string ⟨g.v.st.toArray⟩) (.int .u64 g.sum) (.slice va g.t.length vc))
   obtain⟨zx,hzx⟩ : ∃ X,X=stN10 zy w.heap.size (.int .i64 (k:Int)) (.int .i64 (wrap64 (n:Int))) (.bool g.on) (.string ⟨g.c.toArray⟩) (.int .i64 g.v.sh) (.int .i64 g.v.pr) (.int .i64 g.v.si) (.string ⟨g.v.st.toArray⟩) (.int .u64 g.sum) (.slice va g.t.length vc):=⟨_,rfl⟩
   rw [← hzx] at RX OX HX
   unfold stN10 at hzx
   simp only [← hzx]
   clear hzx
   obtain⟨⟨y0,y1,y2,y3,y4,y5,y6,y7,y8,y9⟩,-⟩:=blk10 RX.out
   refine bodyPost_ret (v:=.tuple #[.agg #[.int .i64 (k:Int),.int .i64 (wrap64 (n:Int)),.bool g.on,.string ⟨g.c.toArray⟩,.int .i64 g.v.sh,.int .i64 g.v.pr,.int .i64 g.v.si,.string ⟨g.v.st.toArray⟩,.int .u64 g.sum,.slice va g.t.length vc],.bool ok]) (by simp [results,Tryz.results93,go_sem,y0,y1,y2,y3,y4,y5,y6,y7,y8,y9]) rfl ⟨.slice va g.t.length vc,by rw [HQ.out]; simp only [hg,hok,frAgg],by rw [HQ.out]; simp only [hg]; exact OX.out,HX.out⟩
 ·go_simp
  refine hK.out _ _ ?_ (fun hHeld2 => ?_)
  ·exact heldB_up (below2Z K0.out (bl_newZ _ _)) D0.out
  clear hK Kx hHeld
  have hHeld:=hHeld2
  clear hHeld2
  try simp only [Act.put,List.setIfInBounds_toArray,List.set_cons_zero,List.set_cons_succ]
  have bz8:=bl_newZ z0 (.cells #[.int .i64 0,.int .i64 0,.bool false,.string ⟨#[]⟩,.int .i64 0,.int .i64 0,.int .i64 0,.string ⟨#[]⟩,.int .u64 0,.slice none 0 0] 29)
  have K8:=hZq (below2Z K0.out bz8)
  have D8:=hZq (heldB_up K8.out D0.out)
  have nz8:=hZq ((MapKept.heap_alloc z0 (.cells #[.int .i64 0,.int .i64 0,.bool false,.string ⟨#[]⟩,.int .i64 0,.int .i64 0,.int .i64 0,.string ⟨#[]⟩,.int .u64 0,.slice none 0 0] 29)).1)
  have hB8:w2.heap.size≤z0.heap.size:=(K0.out).size
  clear bz8
  generalize z0.alloc (.cells #[.int .i64 0,.int .i64 0,.bool false,.string ⟨#[]⟩,.int .i64 0,.int .i64 0,.int .i64 0,.string ⟨#[]⟩,.int .u64 0,.slice none 0 0] 29)=z8 at K8 D8 nz8 hHeld ⊢
  generalize z0.heap.size=B8 at nz8 hB8  ⊢
  refine wpAnyH_ready (rs:=[0]) (by as_aux_lemma => kernel_rfl) (by simp) ?_
  refine AllReadyH.cons (o:=⟨some 29,.call { callee:=.value (.func 100),args:=#[],argTypes:=#[] },130,"frame.go:96",#[],none⟩) rfl (fun Kx hK => ?_) AllReadyH.nil
  go_simp
  refine (HKD.out _).mono ?_
  rintro e z9 ⟨rfl,bz9⟩
  have K9:=hZq (below2Z K8.out bz9)
  have D9:=hZq (heldB_up K9.out D0.out)
  replace nz8:=hZq (((bz9).block _ (Array.getElem?_eq_some_iff.1 (nz8.out)).1).trans (nz8.out))
  clear bz9
  go_wp2_with fail
  refine hK.out _ _ ?_ (fun hHeld2 => ?_)
  ·exact D9.out
  clear hK Kx hHeld
  have hHeld:=hHeld2
  clear hHeld2
  try simp only [Act.put,List.setIfInBounds_toArray,List.set_cons_zero,List.set_cons_succ]
  refine wpAnyH_take (i:=3) (oi:=⟨some 32,.index 130 (.tmp 29) (.tmp 31),129,"frame.go:96",#[⟨0,.data⟩,⟨2,.data⟩],none⟩) (v:=?_) rfl (by as_aux_lemma => kernel_rfl) (by as_aux_lemma => kernel_rfl) (by as_aux_lemma => kernel_rfl) (fun _ _ _ h => h) (Or.inl ⟨by rfl,?_⟩) (by assumption) ?_
  rotate_left
  ·intro w' hSw
   try dsimp only at hSw
   go_simp
   try with_reducible rfl
  try simp only [Act.put,List.setIfInBounds_toArray,List.set_cons_zero,List.set_cons_succ]
  refine wpAnyH_take (i:=4) (oi:=⟨some 33,.field 129 (.tmp 32) 2,127,"frame.go:96",#[⟨3,.data⟩],none⟩) (v:=?_) rfl (by as_aux_lemma => kernel_rfl) (by as_aux_lemma => kernel_rfl) (by as_aux_lemma => kernel_rfl) (fun _ _ _ h => h) (Or.inl ⟨by rfl,?_⟩) (by assumption) ?_
  rotate_left
  ·intro w' hSw
   try dsimp only at hSw
   go_simp
   try with_reducible rfl
  try simp only [Act.put,List.setIfInBounds_toArray,List.set_cons_zero,List.set_cons_succ]
  refine wpAnyH_ready (rs:=[8]) (by as_aux_lemma => kernel_rfl) (by simp) ?_
  refine AllReadyH.cons (o:=⟨some 37,.call { callee:=.value (.tmp 33),args:=#[.tmp 36],argTypes:=#[9] },126,"frame.go:96",#[⟨4,.data⟩,⟨7,.data⟩,⟨0,.chain⟩],none⟩) rfl (fun Kx hK => ?_) AllReadyH.nil
  go_simp
  refine (HT.out _).mono ?_
  rintro e z10 ⟨v,rfl,hov,bz10⟩
  have K10:=hZq (below2Z K9.out bz10)
  have D10:=hZq (heldB_up K10.out D0.out)
  replace nz8:=hZq (((bz10).block _ (Array.getElem?_eq_some_iff.1 (nz8.out)).1).trans (nz8.out))
  obtain⟨va,vc,rfl,-⟩:=Tab.open' (OwnR.tab hov)
  have HOV:=hZq (OwnR.mono hov (Nat.le_trans HB.out.size (K9.out).size))
  clear hov
  clear bz10
  go_wp2_with fail
  refine hK.out _ _ ?_ (fun hHeld2 => ?_)
  ·exact D10.out
  clear hK Kx hHeld
  have hHeld:=hHeld2
  clear hHeld2
  try simp only [Act.put,List.setIfInBounds_toArray,List.set_cons_zero,List.set_cons_succ]
  refine wpAnyH_take (i:=9) (oi:=⟨some 28,.move (.tmp 37),126,"frame.go:96",#[⟨8,.data⟩],none⟩) (v:=?_) rfl (by as_aux_lemma => kernel_rfl) (by as_aux_lemma => kernel_rfl) (by as_aux_lemma => kernel_rfl) (fun _ _ _ h => h) (Or.inl ⟨by rfl,?_⟩) (by assumption) ?_
  rotate_left
  ·intro w' hSw
   try dsimp only at hSw
   go_simp
   try with_reducible rfl
  try simp only [Act.put,List.setIfInBounds_toArray,List.set_cons_zero,List.set_cons_succ]
  refine wpAnyH_take (i:=10) (oi:=⟨some 38,.extract (.tmp 28) 0,29,"frame.go:96",#[⟨9,.data⟩],none⟩) (v:=?_) rfl (by as_aux_lemma => kernel_rfl) (by as_aux_lemma => kernel_rfl) (by as_aux_lemma => kernel_rfl) (fun _ _ _ h => h) (Or.inl ⟨by rfl,?_⟩) (by assumption) ?_
  rotate_left
  ·intro w' hSw
   try dsimp only at hSw
   go_simp
   try with_reducible rfl
  try simp only [Act.put,List.setIfInBounds_toArray,List.set_cons_zero,List.set_cons_succ]
  refine wpAnyH_take (i:=11) (oi:=⟨some 39,.extract (.tmp 28) 1,4,"frame.go:96",#[⟨9,.data⟩,⟨13,.gcOnly .lateStores⟩],none⟩) (v:=?_) rfl (by as_aux_lemma => kernel_rfl) (by as_aux_lemma => kernel_rfl) (by as_aux_lemma => kernel_rfl) (fun _ _ _ h => h) (Or.inl ⟨by rfl,?_⟩) (by assumption) ?_
  rotate_left
  ·intro w' hSw
   try dsimp only at hSw
   go_simp
   try with_reducible rfl
  try simp only [Act.put,List.setIfInBounds_toArray,List.set_cons_zero,List.set_cons_succ]
  obtain⟨⟨c0,c1,c2,c3,c4,c5,c6,c7,c8,c9⟩,⟨g0,g1,g2,g3,g4,g5,g6,g7,g8,g9⟩⟩:=blk10 nz8.out
  refine wpAnyH_ready (rs:=[13]) (by as_aux_lemma => kernel_rfl) (by simp) ?_
  refine AllReadyH.cons (o:=⟨none,.store 29 (.tmp 7) (.tmp 38),0,"frame.go:96",#[⟨12,.data⟩,⟨10,.data⟩,⟨8,.chain⟩,⟨0,.phase⟩,⟨1,.phase⟩,⟨2,.phase⟩,⟨3,.phase⟩,⟨4,.phase⟩,⟨5,.phase⟩,⟨6,.phase⟩,⟨7,.phase⟩,⟨8,.phase⟩,⟨9,.phase⟩,⟨10,.phase⟩,⟨11,.textOnly .lateStores⟩,⟨12,.phase⟩],none⟩) rfl (fun Kx hK => ?_) AllReadyH.nil
  go_simp
  clear c0 c1 c2 c3 c4 c5 c6 c7 c8 c9 g0 g1 g2 g3 g4 g5 g6 g7 g8 g9
  have hBR:¬ w.heap.size=B8:=by omega
  have hBw:w.heap.size≤B8:=by omega
  have FZ:=hZq (stN10_heap nz8.out (.int .i64 g.k) (.int .i64 g.s) (.bool g.on) (.string ⟨g.c.toArray⟩) (.int .i64 g.v.sh) (.int .i64 g.v.pr) (.int .i64 g.v.si) (.string ⟨g.v.st.toArray⟩) (.int .u64 g.sum) (.slice va g.t.length vc))
  have RZ:=hZq ((stN10_far z10 B8 (.int .i64 g.k) (.int .i64 g.s) (.bool g.on) (.string ⟨g.c.toArray⟩) (.int .i64 g.v.sh) (.int .i64 g.v.pr) (.int .i64 g.v.si) (.string ⟨g.v.st.toArray⟩) (.int .u64 g.sum) (.slice va g.t.length vc) hBR).trans (upQ R.out (K10.out)))
  have HZ:=hZq (stN10_below (below2Z HB.out (K10.out)) hBw (.int .i64 g.k) (.int .i64 g.s) (.bool g.on) (.string ⟨g.c.toArray⟩) (.int .i64 g.v.sh) (.int .i64 g.v.pr) (.int .i64 g.v.si) (.string ⟨g.v.st.toArray⟩) (.int .u64 g.sum) (.slice va g.t.length vc))
  have DZ:=hZq (heldB_farF (heldB_up (K10.out) D0.out) (fun k hk => stN10_far z10 B8 (.int .i64 g.k) (.int .i64 g.s) (.bool g.on) (.string ⟨g.c.toArray⟩) (.int .i64 g.v.sh) (.int .i64 g.v.pr) (.int .i64 g.v.si) (.string ⟨g.v.st.toArray⟩) (.int .u64 g.sum) (.slice va g.t.length vc) hk) (fun p hp => by rw [hBN p hp]; exact hBR))
  have OZ:=hZq (ownR_other HOV.out (by decide) nz8.out (fun k hk => stN10_far z10 B8 (.int .i64 g.k) (.int .i64 g.s) (.bool g.on) (.string ⟨g.c.toArray⟩) (.int .i64 g.v.sh) (.int .i64 g.v.pr) (.int .i64 g.v.si) (.string ⟨g.v.st.toArray⟩) (.int .u64 g.sum) (.slice va g.t.length vc) hk))
  refine hK.out _ _ ?_ (fun hHeld2 => ?_)
  ·exact DZ.out
  clear hK Kx hHeld
  have hHeld:=hHeld2
  clear hHeld2
  obtain⟨zf,hzf⟩ : ∃ X,X=stN10 z10 B8 (.int .i64 g.k) (.int .i64 g.s) (.bool g.on) (.string ⟨g.c.toArray⟩) (.int .i64 g.v.sh) (.int .i64 g.v.pr) (.int .i64 g.v.si) (.string ⟨g.v.st.toArray⟩) (.int .u64 g.sum) (.slice va g.t.length vc):=⟨_,rfl⟩
  rw [← hzf] at FZ RZ HZ DZ OZ
  unfold stN10 at hzf
  simp only [← hzf] at hHeld ⊢
  clear hzf
  refine wpAnyH_take (i:=14) (oi:=⟨some 8,.assign (.tmp 39),4,"frame.go:96",#[⟨11,.data⟩,⟨13,.chain⟩,⟨0,.phase⟩,⟨1,.phase⟩,⟨2,.phase⟩,⟨3,.phase⟩,⟨4,.phase⟩,⟨5,.phase⟩,⟨6,.phase⟩,⟨7,.phase⟩,⟨8,.phase⟩,⟨9,.phase⟩,⟨10,.phase⟩,⟨11,.phase⟩,⟨12,.phase⟩,⟨13,.phase⟩],none⟩) (v:=?_) rfl (by as_aux_lemma => kernel_rfl) (by as_aux_lemma => kernel_rfl) (by as_aux_lemma => kernel_rfl) (fun _ _ _ h => h) (Or.inl ⟨by rfl,?_⟩) (by assumption) ?_
  rotate_left
  ·intro w' hSw
   try dsimp only at hSw
   go_simp
   try with_reducible rfl
  try simp only [Act.put,List.setIfInBounds_toArray,List.set_cons_zero,List.set_cons_succ]
  refine wpAnyH_done (by kernel_rfl) ?_ _
  obtain⟨⟨FZc0,FZc1,FZc2,FZc3,FZc4,FZc5,FZc6,FZc7,FZc8,FZc9⟩,⟨FZf0,FZf1,FZf2,FZf3,FZf4,FZf5,FZf6,FZf7,FZf8,FZf9⟩⟩:=blk10 FZ.out
  go_upto_region 8 with fail
  clear FZc0 FZc1 FZc2 FZc3 FZc4 FZc5 FZc6 FZc7 FZc8 FZc9 FZf0 FZf1 FZf2 FZf3 FZf4 FZf5 FZf6 FZf7 FZf8 FZf9
  have FY:=hZq (heap_setCell_same _ B8 1 _ _ (.int .i64 (wrap64 (n:Int))) (heap_setCell_same zf B8 0 _ _ (.int .i64 (k:Int)) FZ.out))
  have hfar2:∀ i9,¬ i9=B8→((zf.setCell ⟨B8,0,none⟩ (.int .i64 (k:Int))).setCell ⟨B8,1,none⟩ (.int .i64 (wrap64 (n:Int)))).heap[i9]?=zf.heap[i9]?:=fun i9 hk => (Below.heap_setCell _ _ _ i9 hk).trans (Below.heap_setCell _ _ _ i9 hk)
  have RY:=hZq ((hfar2 _ hBR).trans RZ.out)
  have OY:=hZq (ownR_other OZ.out (by decide) FZ.out hfar2)
  have HY:Hid (Below w.heap.size w ((zf.setCell ⟨B8,0,none⟩ (.int .i64 (k:Int))).setCell ⟨B8,1,none⟩ (.int .i64 (wrap64 (n:Int))))):=hZq ((HZ.out.setCell hBw _).setCell hBw _)
  clear FZ RZ OZ HZ DZ hfar2
  generalize (zf.setCell ⟨B8,0,none⟩ (.int .i64 (k:Int))).setCell ⟨B8,1,none⟩ (.int .i64 (wrap64 (n:Int)))=zy at FY RY OY HY ⊢
  have FY2:Hid (zy.heap[B8]?=some (.cells #[.int .i64 (k:Int),.int .i64 (wrap64 (n:Int)),.bool g.on,.string ⟨g.c.toArray⟩,.int .i64 g.v.sh,.int .i64 g.v.pr,.int .i64 g.v.si,.string ⟨g.v.st.toArray⟩,.int .u64 g.sum,.slice va g.t.length vc] 29 (0,0))):=FY
  clear FY
  have FY:=FY2
  clear FY2
  obtain⟨⟨FYc0,FYc1,FYc2,FYc3,FYc4,FYc5,FYc6,FYc7,FYc8,FYc9⟩,⟨FYf0,FYf1,FYf2,FYf3,FYf4,FYf5,FYf6,FYf7,FYf8,FYf9⟩⟩:=blk10 FY.out
  obtain⟨⟨RYc0,RYc1,RYc2,RYc3,RYc4,RYc5,RYc6,RYc7,RYc8,RYc9⟩,⟨RYf0,RYf1,RYf2,RYf3,RYf4,RYf5,RYf6,RYf7,RYf8,RYf9⟩⟩:=blk10 RY.out
  go_wp2_with fail
  clear FYc0 FYc1 FYc2 FYc3 FYc4 FYc5 FYc6 FYc7 FYc8 FYc9 FYf0 FYf1 FYf2 FYf3 FYf4 FYf5 FYf6 FYf7 FYf8 FYf9 RYc0 RYc1 RYc2 RYc3 RYc4 RYc5 RYc6 RYc7 RYc8 RYc9 RYf0 RYf1 RYf2 RYf3 RYf4 RYf5 RYf6 RYf7 RYf8 RYf9
  have RX:=hZq (stN10_heap RY.out (.int .i64 (k:Int)) (.int .i64 (wrap64 (n:Int))) (.bool g.on) (.string ⟨g.c.toArray⟩) (.int .i64 g.v.sh) (.int .i64 g.v.pr) (.int .i64 g.v.si) (.string ⟨g.v.st.toArray⟩) (.int .u64 g.sum) (.slice va g.t.length vc))
  have OX:=hZq (ownR_other OY.out (by decide) RY.out (fun _ hk => stN10_far zy w.heap.size (.int .i64 (k:Int)) (.int .i64 (wrap64 (n:Int))) (.bool g.on) (.string ⟨g.c.toArray⟩) (.int .i64 g.v.sh) (.int .i64 g.v.pr) (.int .i64 g.v.si) (.string ⟨g.v.st.toArray⟩) (.int .u64 g.sum) (.slice va g.t.length vc) hk))
  have HX:=hZq (stN10_below HY.out (Nat.le_refl _) (.int .i64 (k:Int)) (.int .i64 (wrap64 (n:Int))) (.bool g.on) (.string ⟨g.c.toArray⟩) (.int .i64 g.v.sh) (.int .i64 g.v.pr) (.int .i64 g.v.si) (.string ⟨g.v.st.toArray⟩) (.int .u64 g.sum) (.slice va g.t.length vc))
  obtain⟨zx,hzx⟩ : ∃ X,X=stN10 zy w.heap.size (.int .i64 (k:Int)) (.int .i64 (wrap64 (n:Int))) (.bool g.on) (.string ⟨g.c.toArray⟩) (.int .i64 g.v.sh) (.int .i64 g.v.pr) (.int .i64 g.v.si) (.string ⟨g.v.st.toArray⟩) (.int .u64 g.sum) (.slice va g.t.length vc):=⟨_,rfl⟩
  rw [← hzx] at RX OX HX
  unfold stN10 at hzx
  simp only [← hzx]
  clear hzx
  obtain⟨⟨y0,y1,y2,y3,y4,y5,y6,y7,y8,y9⟩,-⟩:=blk10 RX.out
  refine bodyPost_ret (v:=.tuple #[.agg #[.int .i64 (k:Int),.int .i64 (wrap64 (n:Int)),.bool g.on,.string ⟨g.c.toArray⟩,.int .i64 g.v.sh,.int .i64 g.v.pr,.int .i64 g.v.si,.string ⟨g.v.st.toArray⟩,.int .u64 g.sum,.slice va g.t.length vc],.bool ok]) (by simp [results,Tryz.results93,go_sem,y0,y1,y2,y3,y4,y5,y6,y7,y8,y9]) rfl ⟨.slice va g.t.length vc,by rw [HQ.out]; simp only [hg,hok,frAgg],by rw [HQ.out]; simp only [hg]; exact OX.out,HX.out⟩

theorem take_at1 (x:UInt8) (hx:x.toNat=1) (b:List UInt8) (hb:(x :: b).length≤4294967296) {n f:Nat} (HG:Hid (vget (x :: b) 1=(n,f,0))) (w:World) :
  Calls Tryz.prog 93 #[.string ⟨(x :: b).toArray⟩] w (TookA (tkAll (x :: b)) w):=by
 have hb2:((x :: b).drop f).length≤4294967296:=by rw [List.length_drop]; omega
 have hi:=fun w => isKind_any ((1:Nat):Int) w
 rw [show (decide ((1:Int)≤((1:Nat):Int)) && decide (((1:Nat):Int)≤4))=true by decide] at hi
 exact take_atk (k:=1) (F:=139) (fu:=.agg #[.func (.func 137) #[] #[],.func (.func 138) #[] #[],.func (.func 139) #[] #[]]) (by decide) (by decide) (hZq hi) (fun _ => by kernel_rfl) (fun _ => by kernel_rfl) (fun _ _ => by kernel_rfl) x hx b hb HG (og:=tkDelta ((x :: b).drop f)) rfl rfl
  (hZq (by unfold tkAll tkBody; simp only; rw [if_neg (by omega),HG.out,hx]; simp)) (hZq fun w => (takeDelta_any ((x :: b).drop f) hb2 w)) w

theorem take_at2 (x:UInt8) (hx:x.toNat=2) (b:List UInt8) (hb:(x :: b).length≤4294967296) {n f:Nat} (HG:Hid (vget (x :: b) 1=(n,f,0))) (w:World) :
  Calls Tryz.prog 93 #[.string ⟨(x :: b).toArray⟩] w (TookA (tkAll (x :: b)) w):=by
 have hb2:((x :: b).drop f).length≤4294967296:=by rw [List.length_drop]; omega
 have hi:=fun w => isKind_any ((2:Nat):Int) w
 rw [show (decide ((1:Int)≤((2:Nat):Int)) && decide (((2:Nat):Int)≤4))=true by decide] at hi
 exact take_atk (k:=2) (F:=142) (fu:=.agg #[.func (.func 140) #[] #[],.func (.func 141) #[] #[],.func (.func 142) #[] #[]]) (by decide) (by decide) (hZq hi) (fun _ => by kernel_rfl) (fun _ => by kernel_rfl) (fun _ _ => by kernel_rfl) x hx b hb HG (og:=tkDigest ((x :: b).drop f)) rfl rfl
  (hZq (by unfold tkAll tkBody; simp only; rw [if_neg (by omega),HG.out,hx]; simp)) (hZq fun w => (takeDigest_any ((x :: b).drop f) hb2 w)) w

theorem take_at3 (x:UInt8) (hx:x.toNat=3) (b:List UInt8) (hb:(x :: b).length≤4294967296) {n f:Nat} (HG:Hid (vget (x :: b) 1=(n,f,0))) (w:World) :
  Calls Tryz.prog 93 #[.string ⟨(x :: b).toArray⟩] w (TookA (tkAll (x :: b)) w):=by
 have hb2:((x :: b).drop f).length≤4294967296:=by rw [List.length_drop]; omega
 have hi:=fun w => isKind_any ((3:Nat):Int) w
 rw [show (decide ((1:Int)≤((3:Nat):Int)) && decide (((3:Nat):Int)≤4))=true by decide] at hi
 exact take_atk (k:=3) (F:=145) (fu:=.agg #[.func (.func 143) #[] #[],.func (.func 144) #[] #[],.func (.func 145) #[] #[]]) (by decide) (by decide) (hZq hi) (fun _ => by kernel_rfl) (fun _ => by kernel_rfl) (fun _ _ => by kernel_rfl) x hx b hb HG (og:=tkSnapshot ((x :: b).drop f)) rfl rfl
  (hZq (by unfold tkAll tkBody; simp only; rw [if_neg (by omega),HG.out,hx]; simp)) (hZq fun w => (takeSnapshot_any ((x :: b).drop f) hb2 w)) w

theorem take_at4 (x:UInt8) (hx:x.toNat=4) (b:List UInt8) (hb:(x :: b).length≤4294967296) {n f:Nat} (HG:Hid (vget (x :: b) 1=(n,f,0))) (w:World) :
  Calls Tryz.prog 93 #[.string ⟨(x :: b).toArray⟩] w (TookA (tkAll (x :: b)) w):=by
 have hb2:((x :: b).drop f).length≤4294967296:=by rw [List.length_drop]; omega
 have hi:=fun w => isKind_any ((4:Nat):Int) w
 rw [show (decide ((1:Int)≤((4:Nat):Int)) && decide (((4:Nat):Int)≤4))=true by decide] at hi
 exact take_atk (k:=4) (F:=148) (fu:=.agg #[.func (.func 146) #[] #[],.func (.func 147) #[] #[],.func (.func 148) #[] #[]]) (by decide) (by decide) (hZq hi) (fun _ => by kernel_rfl) (fun _ => by kernel_rfl) (fun _ _ => by kernel_rfl) x hx b hb HG (og:=tkResync ((x :: b).drop f)) rfl rfl
  (hZq (by unfold tkAll tkBody; simp only; rw [if_neg (by omega),HG.out,hx]; simp)) (hZq fun w => (takeResync_any ((x :: b).drop f) w)) w

end Go.Proofs.YtekkofldhhdpgaaGreat
