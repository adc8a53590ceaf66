/-
 TEXTS OF THE PROOF, one behind the other: ViewRof, ViewBet, IdLive, NumRow, PairKey, RosItems, StaAll.
-/
import Derived.Test.YtphfinlfabklmaaGreatB28
import Derived.Test.YtphfinlfabklmaaGreatB29
import Derived.Test.YtphfinlfabklmaaGreatB31
import Derived.Deep.DeepCutAuto
import Derived.Deep.CutBlock
import Derived.Test.YtphfinlfabklmaaGreatB30
import Derived.Test.YtphfinlfabklmaaGreatB02
import Derived.Test.YtphfinlfabklmaaGreatB16
import Derived.Test.YtphfinlfabklmaaGreatB10
import Derived.Test.YtphfinlfabklmaaGreatProg
import Derived.DeepKeys4
import Derived.Maps.OwnSet
import Derived.Test.YtphfinlfabklmaaGreatB23
import Derived.Test.YtphfinlfabklmaaGreatB15
import Derived.Test.YtphfinlfabklmaaGreatB13

set_option maxHeartbeats 12800000
set_option maxRecDepth 100000

section

namespace Go.Proofs.YtphfinlfabklmaaGreat
open Go.RowKit Go.Deep

def heldD (X:World) (bs:List (Nat × List Value)) (b off:Nat) (v:Value):Prop:=heldB X bs∧X.cell? ⟨b,off,none⟩=some v

theorem heldD_up {W X:World} {bs:List (Nat × List Value)} {b off:Nat} {v:Value} (hb:Below W.heap.size W X) (h:heldD W bs b off v):heldD X bs b off v :=
 ⟨heldB_up hb h.1,cell_later h.2 hb⟩

theorem set4V {w:World} {b:Nat} {x0 x1 x2 x3 y0 y1 y2 y3:Value} {T:TypeId} (h:w.heap[b]?=some (.cells #[x0,x1,x2,x3] T (0,0))) :
  ((((w.setCell ⟨b,0,none⟩ y0).setCell ⟨b,1,none⟩ y1).setCell ⟨b,2,none⟩ y2).setCell ⟨b,3,none⟩ y3).cell? ⟨b,0,none⟩=some y0 ∧
  ((((w.setCell ⟨b,0,none⟩ y0).setCell ⟨b,1,none⟩ y1).setCell ⟨b,2,none⟩ y2).setCell ⟨b,3,none⟩ y3).cell? ⟨b,1,none⟩=some y1 ∧
  ((((w.setCell ⟨b,0,none⟩ y0).setCell ⟨b,1,none⟩ y1).setCell ⟨b,2,none⟩ y2).setCell ⟨b,3,none⟩ y3).cell? ⟨b,2,none⟩=some y2 ∧
  ((((w.setCell ⟨b,0,none⟩ y0).setCell ⟨b,1,none⟩ y1).setCell ⟨b,2,none⟩ y2).setCell ⟨b,3,none⟩ y3).cell? ⟨b,3,none⟩=some y3:=by
 have h1:=heap_setCell_same w b 0 _ _ y0 h
 have h2:=heap_setCell_same _ b 1 _ _ y1 h1
 have h3:=heap_setCell_same _ b 2 _ _ y2 h2
 have h4:=heap_setCell_same _ b 3 _ _ y3 h3
 exact⟨cell_of_row _ b 0 _ _ (0,0) h4,cell_of_row _ b 1 _ _ (0,0) h4,cell_of_row _ b 2 _ _ (0,0) h4,cell_of_row _ b 3 _ _ (0,0) h4⟩

theorem cellsAt_four {X:World} {B:Nat} {a b c d:Value} (h0:X.cell? ⟨B,0,none⟩=some a) (h1:X.cell? ⟨B,1,none⟩=some b) (h2:X.cell? ⟨B,2,none⟩=some c) (h3:X.cell? ⟨B,3,none⟩=some d):CellsAt X B 0 [a,b,c,d]:=by
 intro j u hu
 match j,hu with
 | 0,hu => simp only [List.getElem?_cons_zero,Option.some.injEq] at hu; subst hu; exact h0
 | 1,hu => simp only [List.getElem?_cons_succ,List.getElem?_cons_zero,Option.some.injEq] at hu; subst hu; exact h1
 | 2,hu => simp only [List.getElem?_cons_succ,List.getElem?_cons_zero,Option.some.injEq] at hu; subst hu; exact h2
 | 3,hu => simp only [List.getElem?_cons_succ,List.getElem?_cons_zero,Option.some.injEq] at hu; subst hu; exact h3
 | j+4,hu => simp at hu

theorem texts_shape {w:World} {v:Value} {ls:List (List UInt8)} {n:Nat} (h:Texts w v ls) (hn:ls.length=n):∃ a c,v=.slice a n c:=by
 obtain⟨a',c',e,_⟩:=h
 exact⟨a',c',by rw [← hn]; exact e⟩

end Go.Proofs.YtphfinlfabklmaaGreat

end

section

namespace Go.Proofs.YtphfinlfabklmaaGreat
open Go.RowKit

theorem row_short {r:Row} (h:rowOk r=true):r.c.length≤4294967296∧r.v.st.length≤4294967296:=by
 unfold rowOk at h
 rw [Bool.and_eq_true] at h
 have h1:=(idIs_parts h.1).2.1
 have h2:=h.2
 unfold vaMay stOk at h2
 simp only [Bool.and_eq_true,decide_eq_true_eq] at h2
 have h3:=h2.2.1
 omega

theorem diMay_short {t:List Row} (h:diMay t=true):Short t:=fun r hr => row_short ((diMay_iff.1 h).2.1 r hr)

theorem vwOf_short (t:Sta) (u:List UInt8):Short (vwOf t u):=by
 cases hm:stMay t with
 | false =>
  have e:vwOf t u=[]:=by unfold vwOf; rw [if_neg (by rw [hm]; simp)]
  rw [e]
  intro r hr
  cases hr
 | true => exact diMay_short (vwOf_may hm u)

theorem vwOf_100 (t:Sta) (u:List UInt8):(vwOf t u).length≤16:=by
 cases hm:stMay t with
 | false =>
  have e:vwOf t u=[]:=by unfold vwOf; rw [if_neg (by rw [hm]; simp)]
  rw [e]
  exact Nat.zero_le _
 | true => exact vwOf_len hm u

theorem vwbetween_any {w:World} {x y p q:Value} {s t:Sta} (h:StAt w x y s) (k:StAt w p q t) (hok:ShortE s.e∧ShortS s.s) (kok:ShortE t.e∧ShortS t.s) (hl:s.e.length≤4294967) (kl:t.e.length≤4294967) (u:List UInt8) :
  Calls Tryz.prog 24 #[.agg #[x,y],.agg #[p,q],.string ⟨u.toArray⟩] w fun e w' => ∃ v,e=.returned v∧Chgs w' v (vwBetween s t u)∧Below w.heap.size w w':=by
 have b0:=bl_newZ w (.cells #[x,y] 25)
 have b1:=bl_newZ (w.alloc (.cells #[x,y] 25)) (.cells #[p,q] 25)
 have HB:=hD (below2Z b0 b1)
 have H:=hD ((h.later b0).later b1)
 have K:=hD ((k.later b0).later b1)
 have F:=hD (upT (heap_newT w (.cells #[x,y] 25)) b1)
 have G:=heap_newT (w.alloc (.cells #[x,y] 25)) (.cells #[p,q] 25)
 rw [World.size_alloc] at G
 replace G:=hD G
 have HOK:=hD hok
 have KOK:=hD kok
 clear b0 b1 h k hok kok
 go_enter Tryz.func24,Tryz.ntmps24
 go_upto_region 1 with fail
 generalize (w.alloc (.cells #[x,y] 25)).alloc (.cells #[p,q] 25)=W1 at F G H K HB ⊢
 obtain⟨BS,hBS⟩ : ∃ BS:List (Nat × List Value),BS=[(w.heap.size,[x,y]),(w.heap.size+1,[p,q])]:=⟨_,rfl⟩
 have D0:=hD (show heldB W1 BS from by rw [hBS]; exact heldB_cons (cellsAt_block F.out) (heldB_cons (cellsAt_block G.out) (heldB_nil _)))
 have hq0:∀ X,heldB X BS→X.cell? ⟨w.heap.size,0,none⟩=some (x):=fun X hx => heldB_get (vs:=[x,y]) hx (by rw [hBS]; simp) rfl
 have hq1:∀ X,heldB X BS→X.cell? ⟨w.heap.size,1,none⟩=some (y):=fun X hx => heldB_get (vs:=[x,y]) hx (by rw [hBS]; simp) rfl
 have hq2:∀ X,heldB X BS→X.cell? ⟨w.heap.size+1,0,none⟩=some (p):=fun X hx => heldB_get (vs:=[p,q]) hx (by rw [hBS]; simp) rfl
 have hq3:∀ X,heldB X BS→X.cell? ⟨w.heap.size+1,1,none⟩=some (q):=fun X hx => heldB_get (vs:=[p,q]) hx (by rw [hBS]; simp) rfl
 clear hBS
 have K0:Hid (Below W1.heap.size W1 W1.drew):=hD (Below.refl _ _).drew
 refine wp_region_held_drew (S:=(fun X => heldB X BS)) (by kernel_rfl) ?_ (fun hHeld => ?_)
 ·exact heldB_up K0.out D0.out
 generalize W1.drew=z0 at K0 hHeld ⊢
 refine wpAnyH_take (i:=0) (oi:=⟨some 7,.load 25 (.tmp 3),25,"view.go:49",#[],none⟩) (v:=?_) rfl (by as_aux_lemma => kernel_rfl) (by as_aux_lemma => kernel_rfl) (by as_aux_lemma => kernel_rfl) (fun _ _ _ h => h) (Or.inl ⟨by rfl,?_⟩) (by assumption) ?_
 rotate_left
 ·intro w' hSw
  try dsimp only at hSw
  go_simp
  try with_reducible rfl
 try simp only [Act.put,List.setIfInBounds_toArray,List.set_cons_zero,List.set_cons_succ]
 refine wpAnyH_take (i:=1) (oi:=⟨some 8,.move (.tmp 2),9,"view.go:49",#[],none⟩) (v:=?_) rfl (by as_aux_lemma => kernel_rfl) (by as_aux_lemma => kernel_rfl) (by as_aux_lemma => kernel_rfl) (fun _ _ _ h => h) (Or.inl ⟨by rfl,?_⟩) (by assumption) ?_
 rotate_left
 ·intro w' hSw
  try dsimp only at hSw
  go_simp
  try with_reducible rfl
 try simp only [Act.put,List.setIfInBounds_toArray,List.set_cons_zero,List.set_cons_succ]
 refine wpAnyH_take (i:=3) (oi:=⟨some 10,.load 25 (.tmp 4),25,"view.go:49",#[],none⟩) (v:=?_) rfl (by as_aux_lemma => kernel_rfl) (by as_aux_lemma => kernel_rfl) (by as_aux_lemma => kernel_rfl) (fun _ _ _ h => h) (Or.inl ⟨by rfl,?_⟩) (by assumption) ?_
 rotate_left
 ·intro w' hSw
  try dsimp only at hSw
  go_simp
  try with_reducible rfl
 try simp only [Act.put,List.setIfInBounds_toArray,List.set_cons_zero,List.set_cons_succ]
 refine wpAnyH_take (i:=4) (oi:=⟨some 11,.move (.tmp 2),9,"view.go:49",#[],none⟩) (v:=?_) rfl (by as_aux_lemma => kernel_rfl) (by as_aux_lemma => kernel_rfl) (by as_aux_lemma => kernel_rfl) (fun _ _ _ h => h) (Or.inl ⟨by rfl,?_⟩) (by assumption) ?_
 rotate_left
 ·intro w' hSw
  try dsimp only at hSw
  go_simp
  try with_reducible rfl
 try simp only [Act.put,List.setIfInBounds_toArray,List.set_cons_zero,List.set_cons_succ]
 refine wpAnyH_ready (rs:=[2]) (by as_aux_lemma => kernel_rfl) (by simp) ?_
 refine AllReadyH.cons (o:=⟨some 9,.call { callee:=.value (.func 18),args:=#[.tmp 7,.tmp 8],argTypes:=#[25,9] },34,"view.go:49",#[⟨0,.data⟩,⟨1,.data⟩],none⟩) rfl (fun Kx hK => ?_) AllReadyH.nil
 go_simp
 refine (vwof_any (H.out.later K0.out) HOK.out hl u).mono ?_
 rintro e z1 ⟨v1,rfl,ho1,bz1⟩
 have K1:=hD (below2Z K0.out bz1)
 have D1:=hD (heldB_up K1.out D0.out)
 have T1:=hD ho1.tab
 clear ho1
 clear bz1
 go_wp2_with fail
 refine hK.out _ _ ?_ (fun hHeld2 => ?_)
 ·exact D1.out
 clear hK Kx hHeld
 have hHeld:=hHeld2
 clear hHeld2
 try simp only [Act.put,List.setIfInBounds_toArray,List.set_cons_zero,List.set_cons_succ]
 refine wpAnyH_ready (rs:=[5]) (by as_aux_lemma => kernel_rfl) (by simp) ?_
 refine AllReadyH.cons (o:=⟨some 12,.call { callee:=.value (.func 18),args:=#[.tmp 10,.tmp 11],argTypes:=#[25,9] },34,"view.go:49",#[⟨3,.data⟩,⟨4,.data⟩,⟨2,.chain⟩],none⟩) rfl (fun Kx hK => ?_) AllReadyH.nil
 go_simp
 refine (vwof_any (K.out.later K1.out) KOK.out kl u).mono ?_
 rintro e z2 ⟨v2,rfl,ho2,bz2⟩
 have K2:=hD (below2Z K1.out bz2)
 have D2:=hD (heldB_up K2.out D0.out)
 replace T1:=hD (Tab.later T1.out bz2)
 have T2:=hD ho2.tab
 clear ho2
 clear bz2
 go_wp2_with fail
 refine hK.out _ _ ?_ (fun hHeld2 => ?_)
 ·exact D2.out
 clear hK Kx hHeld
 have hHeld:=hHeld2
 clear hHeld2
 try simp only [Act.put,List.setIfInBounds_toArray,List.set_cons_zero,List.set_cons_succ]
 refine wpAnyH_ready (rs:=[6]) (by as_aux_lemma => kernel_rfl) (by simp) ?_
 refine AllReadyH.cons (o:=⟨some 13,.call { callee:=.value (.func 73),args:=#[.tmp 9,.tmp 12],argTypes:=#[34,34] },40,"view.go:49",#[⟨2,.data⟩,⟨5,.data⟩,⟨5,.chain⟩],none⟩) rfl (fun Kx hK => ?_) AllReadyH.nil
 go_simp
 refine (changes_any T1.out T2.out (vwOf_short s u) (vwOf_short t u) (by have:=vwOf_100 s u; omega) (by have:=vwOf_100 t u; omega)).mono ?_
 rintro e z3 ⟨v3,rfl,ho3,bz3⟩
 have K3:=hD (below2Z K2.out bz3)
 have D3:=hD (heldB_up K3.out D0.out)
 replace T1:=hD (Tab.later T1.out bz3)
 replace T2:=hD (Tab.later T2.out bz3)
 have T3:=hD ho3
 clear ho3
 clear bz3
 go_wp2_with fail
 refine hK.out _ _ ?_ (fun hHeld2 => ?_)
 ·exact D3.out
 clear hK Kx hHeld
 have hHeld:=hHeld2
 clear hHeld2
 try simp only [Act.put,List.setIfInBounds_toArray,List.set_cons_zero,List.set_cons_succ]
 refine wpAnyH_take (i:=7) (oi:=⟨some 6,.assign (.tmp 13),40,"view.go:49",#[⟨6,.data⟩,⟨6,.chain⟩,⟨0,.phase⟩,⟨1,.phase⟩,⟨2,.phase⟩,⟨3,.phase⟩,⟨4,.phase⟩,⟨5,.phase⟩,⟨6,.phase⟩],none⟩) (v:=?_) rfl (by as_aux_lemma => kernel_rfl) (by as_aux_lemma => kernel_rfl) (by as_aux_lemma => kernel_rfl) (fun _ _ _ h => h) (Or.inl ⟨by rfl,?_⟩) (by assumption) ?_
 rotate_left
 ·intro w' hSw
  try dsimp only at hSw
  go_simp
  try with_reducible rfl
 try simp only [Act.put,List.setIfInBounds_toArray,List.set_cons_zero,List.set_cons_succ]
 refine wpAnyH_done (by kernel_rfl) ?_ _
 replace HB:=hD (below2Z HB.out K3.out)
 go_wp2_with fail
 go_ret
 exact⟨_,rfl,T3.out,HB.out⟩

end Go.Proofs.YtphfinlfabklmaaGreat

end

section

namespace Go.Proofs.YtphfinlfabklmaaGreat
open Go.RowKit

theorem texts_made (w:World) (T:TypeId) (B:Nat) (hB:B=w.heap.size) (ls:List (List UInt8)) (hl:ls.length≤100) (A:Array Value) (hA:A=(ls.map encS).toArray) (n:Nat) (hn:n=ls.length) :
  Texts (w.alloc (.cells A T)) (.slice (some ⟨B,0,none⟩) n n) ls:=by
 subst hB hA hn
 refine ⟨_,_,rfl,Nat.le_refl _,by unfold maxLen; omega,(fun e => by cases e),.inr ⟨_,_,rfl,by simp,fun i hi => ?_⟩⟩
 rw [World.cell?_alloc_at _ _ _ _ rfl,Nat.zero_add]
 simp [List.getD,List.getElem?_eq_getElem hi]

theorem i1:Hid (idFold [65,110,110,45,50]=([97,110,110,45,50],true)):=by show _=_; decide +kernel
theorem i2:Hid (idFold [50,97,110,110]=([],false)):=by show _=_; decide +kernel
theorem i3:Hid (idPut [98,111,98]=([3,98,111,98],true)):=by show _=_; decide +kernel
theorem i4:Hid (idPut [66,111,98]=([],false)):=by show _=_; decide +kernel
theorem i5:Hid (idTake [120,3,98,111,98] 1=([98,111,98],5,0)):=by show _=_; kernel_rfl
end Go.Proofs.YtphfinlfabklmaaGreat

end

section

namespace Go.Proofs.YtphfinlfabklmaaGreat
open Go.RowKit

def RowN (w:World) (B:Nat) (u:List Int):Prop:=w.heap[B]?=some (.cells (u.map (Value.int .i64)).toArray 52 (0,0))

theorem RowN.lt {w:World} {B:Nat} {u:List Int} (h:RowN w B u):B < w.heap.size:=(Array.getElem?_eq_some_iff.1 h).1

theorem RowN.at {w:World} {B:Nat} {u:List Int} (h:RowN w B u) (j:Nat) (hj:j < u.length):w.cell? ⟨B,j,none⟩=some (.int .i64 (u.getD j 0))∧w.frozen? ⟨B,j,none⟩=false:=by
 refine ⟨?_,frozen_of_row w B j _ _ h⟩
 refine (cell_of_row w B j _ _ (0,0) h).trans ?_
 simp [List.getD,hj]

theorem RowN.set {w:World} {B:Nat} {u:List Int} (h:RowN w B u) (j:Nat) (x:Int):RowN (w.setCell ⟨B,j,none⟩ (.int .i64 x)) B (u.set j x):=by
 have:=heap_setCell_same w B j _ _ (.int .i64 x) h
 unfold RowN
 rw [this]
 simp [List.map_set]

theorem RowN.later {w w':World} {B:Nat} {u:List Int} (h:RowN w B u) (hb:Below w.heap.size w w'):RowN w' B u:=(hb.block B h.lt).trans h

def numVals (n:Int):List Value:=[.int .i64 n]

theorem numOK:RowOK Tryz.prog numVals 1 0 52 99 (.int .i64 0) 8 where
 len _:=rfl
 one a u hu:=by
  simp only [numVals,List.mem_cons,List.not_mem_nil,or_false] at hu
  rcases hu with rfl
  rfl
 pos:=by decide
 small:=by decide
 under:=Tryz.underlying99
 info:=by kernel_rfl
 zvals:=rfl
 fits:=by decide

abbrev Nums (w:World) (v:Value) (u:List Int):Prop:=RdS numVals 1 0 w v u

theorem Nums.at {w wr:World} {a:Option Addr} {n cap:Nat} {u:List Int} (h:Nums w (.slice a n cap) u) (hb:Below w.heap.size w wr) (k:Nat) (hk:k < u.length) :
  ∃ b off,a=some ⟨b,off,none⟩∧wr.cell? ⟨b,off+k,none⟩=some (.int .i64 (u.getD k 0)):=by
 obtain⟨b,off,e,hc⟩:=RdS.row h hb k hk
 have h0:=hc 0 _ rfl
 rw [Nat.mul_one] at h0
 exact⟨b,off,e,h0⟩

def numAt (t:List Int) (k:Nat):List Int:=t.take k ++ List.replicate (t.length - k) 0

end Go.Proofs.YtphfinlfabklmaaGreat

end

section

namespace Go.Proofs.YtphfinlfabklmaaGreat
open Go.RowKit Go.ChangeMaps Go.MapKept

def pkV (a b:List UInt8):Value:=.agg #[.string ⟨a.toArray⟩,.string ⟨b.toArray⟩]

def pkL (a b:List UInt8):Lit:=.string (keyBytes [.string a,.string b])

end Go.Proofs.YtphfinlfabklmaaGreat

end

section

namespace Go.Proofs.YtphfinlfabklmaaGreat
open Go.RowKit Go.ChangeMaps Go.MapKept

def itData (i:It):DataW Unit:=.agg [.lit (.bool i.to),.lit (.bool i.fr),.lit (.bool i.out),.lit (.bool i.inn),.lit (.bool i.bl)]

def itElem:Value→Option (DataW Unit × List MemPlace)
 | .agg cs => match cs.toList with
  | [.bool a,.bool b,.bool c,.bool d,.bool e] => some (itData ⟨a,b,c,d,e⟩,[])
  | _ => none
 | _ => none

def ItemsAt (w:World) (B n:Nat) (g:List UInt8→List UInt8→It):Prop :=
 ∃ m,∃ D:DataW Unit,m≤n∧w.ownsMap Tryz.prog 26 itElem B m D∧∀ a b:List UInt8,a.length≤40→b.length≤40→D.atKey (pkL a b) (itData It.zero)=itData (g a b)

theorem ItemsAt.lt {w:World} {B n:Nat} {g:List UInt8→List UInt8→It} (h:ItemsAt w B n g):B < w.heap.size:=by
 obtain⟨_,_,_,h,_⟩:=h
 exact h.lt

theorem ItemsAt.later {w w':World} {B n:Nat} {g:List UInt8→List UInt8→It} (h:ItemsAt w B n g) (hb:Below w.heap.size w w'):ItemsAt w' B n g:=by
 have hlt:=h.lt
 obtain⟨m,D,h1,⟨es,clock,h2,h3,h4,h5⟩,h6⟩:=h
 exact⟨m,D,h1,⟨es,clock,(hb.block B hlt).trans h2,h3,h4,h5⟩,h6⟩

theorem ItemsAt.isMap {w:World} {B n:Nat} {g:List UInt8→List UInt8→It} (h:ItemsAt w B n g):∃ es clock,w.heap[B]?=some (.map es clock):=by
 obtain⟨_,_,_,⟨es,clock,h2,_⟩,_⟩:=h
 exact⟨es,clock,h2⟩

def layI (g:List UInt8→List UInt8→It) (a b:List UInt8) (i:It):List UInt8→List UInt8→It:=fun x y => if x=a∧y=b then i else g x y

theorem Ents.grown {w w':World} {v:Value} {l:List Ent} (h:Ents w v l) {B:Nat} (hm:∃ es clock,w.heap[B]?=some (.map es clock)) (hg:w.grownBy w' (some B)):Ents w' v l:=by
 obtain⟨es,clock,hm⟩:=hm
 obtain⟨a,cap,h1,h2,h3,h4,h5⟩:=h
 refine ⟨a,cap,h1,h2,h3,h4,?_⟩
 rcases h5 with h5 | ⟨b,off,e,hlt,hc⟩
 ·exact .inl h5
 ·refine .inr ⟨b,off,e,Nat.lt_of_lt_of_le hlt hg.size,fun i hi => ?_⟩
  have hbB:b ≠ B:=by
   rintro rfl
   have:=(hc i hi).1
   simp [World.cell?,hm] at this
  have hb:=hg.block b hlt (fun e => hbB (by injection e))
  have key:∀ j u,w.cell? ⟨b,j,none⟩=some u→w'.cell? ⟨b,j,none⟩=some u:=by
   intro j u hu
   simp only [World.cell?,hb] at hu ⊢
   exact hu
  obtain⟨g0,g1,g2,g3,g4,g5,g6⟩:=hc i hi
  exact⟨key _ _ g0,key _ _ g1,key _ _ g2,key _ _ g3,key _ _ g4,key _ _ g5,key _ _ g6⟩

theorem roM_short {l:List Ent} (h:RoM l):ShortE l:=fun e he => by
 have h1:=(h.2 e he).1
 have h2:=(h.2 e he).2.1
 have k1:=(idIs_parts h1).2.1
 have k2:=(idIs_parts h2).2.1
 exact⟨by omega,by omega⟩

theorem roDo_len2 {l m:List Ent} {k:Int} {u o:List UInt8} (h:roDo l k u o=(m,0)):m.length≤l.length+2:=by
 obtain⟨hm,_,_,_,_,_,a,b,_,_,rfl⟩:=roDo_ok h
 have hr:Rise l:=hm.1
 have key:∀ (t:List Ent) (x:Ent) (keep:Bool),Rise t→(roSet t x keep).length≤t.length+1:=by
  intro t x keep ht
  cases keep with
  | true => rw [roSet_keep ht]; exact putO_le t x
  | false => rw [roSet_drop]; exact Nat.le_trans (dropO_le t x) (Nat.le_succ _)
 have h1:=key l ⟨u,o,a⟩ (!(suEmpty a && suEmpty b)) hr
 have h2:=key (roSet l ⟨u,o,a⟩ (!(suEmpty a && suEmpty b))) ⟨o,u,b⟩ (!(suEmpty a && suEmpty b)) (roSet_rise hr _ _)
 omega

end Go.Proofs.YtphfinlfabklmaaGreat

end

section

namespace Go.Proofs.YtphfinlfabklmaaGreat
open Go.RowKit

def StOK (t:Sta):Prop:=ShortE t.e∧ShortS t.s

theorem seOne_st {s:Ses} (h:seOne s=true):s.v.st.length≤32:=by
 unfold seOne at h
 simp only [Bool.and_eq_true] at h
 have h2:vaMay s.v=true:=h.2.2.2
 unfold vaMay stOk at h2
 simp only [Bool.and_eq_true,decide_eq_true_eq] at h2
 exact h2.2.1

theorem seMay_short {l:List Ses} (h:seMay l=true):ShortS l:=fun s hs => by
 have h1:=(seMay_rise h).2.2 s hs
 unfold seOne at h1
 simp only [Bool.and_eq_true] at h1
 have h2:=(idIs_parts h1.1).2.1
 have h3:s.v.st.length≤32:=seOne_st ((seMay_rise h).2.2 s hs)
 exact⟨by omega,by omega⟩

theorem stOK_may {t:Sta} (h:stMay t=true):StOK t:=by
 unfold stMay at h
 rw [Bool.and_eq_true] at h
 exact⟨roM_short (roMay_iff.1 h.1),seMay_short h.2⟩

theorem stOK_next {t t':Sta} {e:Ev} {n:Nat} (h:StOK t) (hd:stApply t e=(t',n)):StOK t':=by
 by_cases hn:n=0
 ·subst hn
  exact stOK_may (stApply_may hd)
 ·rw [stApply_err hd hn]
  exact h

theorem stLen_next {t t':Sta} {e:Ev} {n:Nat} (hd:stApply t e=(t',n)):t'.e.length≤t.e.length+2:=by
 by_cases hn:n=0
 ·subst hn
  obtain⟨_,h⟩:=stApply_ok hd
  rcases h with ⟨_,_,h,_⟩ | ⟨_,_,h⟩ | ⟨_,_,h⟩
  ·exact roDo_len2 h
  ·rw [h]; omega
  ·rw [h]; omega
 ·rw [stApply_err hd hn]
  omega

theorem stAll_take {t:Sta} {l:List Ev} {k:Nat} (hk:k < l.length):(stAll t (l.take (k+1))).1=(stApply (stAll t (l.take k)).1 (l.getD k Ev.zero)).1:=by
 rw [List.take_add_one,List.getElem?_eq_getElem hk,List.getD_eq_getElem?_getD,List.getElem?_eq_getElem hk,Option.toList_some,stAll_snoc]
 rfl

def numsOf (t:Sta) (l:List Ev):List Int:=(stAll t l).2.map fun (n:Nat) => (n:Int)

theorem numsOf_len (t:Sta) (l:List Ev):(numsOf t l).length=l.length:=by unfold numsOf; rw [List.length_map,stAll_len]

theorem eightAt {X:World} {B off:Nat} {k id a b c:Int} {u o st:List UInt8} (h:CellsAt X B off (evVals ⟨k,u,o,id,⟨a,b,c,st⟩⟩)) :
  X.cell? ⟨B,off,none⟩=some (.int .i64 k)∧X.cell? ⟨B,off+1,none⟩=some (.string ⟨u.toArray⟩)∧X.cell? ⟨B,off+2,none⟩=some (.string ⟨o.toArray⟩)∧X.cell? ⟨B,off+3,none⟩=some (.int .i64 id)∧X.cell? ⟨B,off+4,none⟩=some (.int .i64 a)∧X.cell? ⟨B,off+5,none⟩=some (.int .i64 b)∧X.cell? ⟨B,off+6,none⟩=some (.int .i64 c)∧X.cell? ⟨B,off+7,none⟩=some (.string ⟨st.toArray⟩) :=
 ⟨h 0 _ rfl,h 1 _ rfl,h 2 _ rfl,h 3 _ rfl,h 4 _ rfl,h 5 _ rfl,h 6 _ rfl,h 7 _ rfl⟩

def evShort (e:Ev):Prop:=e.u.length≤4294967296∧e.o.length≤4294967296∧e.v.st.length≤4294967296

theorem evgetD {l:List Ev} {i:Nat} (h:i < l.length):l.getD i Ev.zero=l[i]:=by
 rw [List.getD_eq_getElem?_getD,List.getElem?_eq_getElem h]; rfl

end Go.Proofs.YtphfinlfabklmaaGreat

end
