/-
 TEXTS OF THE PROOF, one behind the other: ValTake.
-/
import Derived.Test.YtekkofldhhdpgaaGreatD05

set_option maxHeartbeats 12800000
set_option maxRecDepth 100000

namespace Go.Proofs.YtekkofldhhdpgaaGreat
open Go.RowKit

def tripleV (a b c:Int) (t:List UInt8) (f er:Nat):Value:=.tuple #[.agg #[.int .i64 a,.int .i64 b,.int .i64 c,.string ⟨t.toArray⟩],.int .i64 f,.int .i64 er]

def valV (v:Val):Value:=.agg #[.int .i64 v.sh,.int .i64 v.pr,.int .i64 v.si,.string ⟨v.st.toArray⟩]

def tripleW (r:Val × Nat × Nat):Value:=.tuple #[valV r.1,.int .i64 r.2.1,.int .i64 r.2.2]

theorem take_eq32 (l:List UInt8) (hl:l.length≤4294967296) (p:Nat) (w:World) {t:List UInt8} {f er:Nat} (h:Hid (vtake l p 32=(t,f,er))) :
  Calls Tryz.prog 188 #[.string ⟨l.toArray⟩,.int .i64 p,.int .i64 32] w fun e w' => e=.returned (.tuple #[.string ⟨t.toArray⟩,.int .i64 f,.int .i64 er])∧w=w':=take_eq l hl p 32 (by decide) w h

theorem wrap_high (n:Nat) (h:9223372036854775808≤n) (h':n < 18446744073709551616):IntKind.i64.wrap (n:Int)=(n:Int) - 18446744073709551616:=by
 rw [IntKind.wrap_i64]
 omega

def set4 (w:World) (B:Nat) (a b c d:Value):World:=(((w.setCell ⟨B,0,none⟩ a).setCell ⟨B,1,none⟩ b).setCell ⟨B,2,none⟩ c).setCell ⟨B,3,none⟩ d

theorem four_set (w:World) (B:Nat) (a b c d a' b' c' d':Value) (h0:w.cell? ⟨B,0,none⟩=some a') (h1:w.cell? ⟨B,1,none⟩=some b') (h2:w.cell? ⟨B,2,none⟩=some c') (h3:w.cell? ⟨B,3,none⟩=some d') :
  (set4 w B a b c d).cell? ⟨B,0,none⟩=some a∧(set4 w B a b c d).cell? ⟨B,1,none⟩=some b∧(set4 w B a b c d).cell? ⟨B,2,none⟩=some c∧(set4 w B a b c d).cell? ⟨B,3,none⟩=some d:=by
 unfold set4
 have o1:(w.setCell ⟨B,0,none⟩ a).cell? ⟨B,1,none⟩=some b':=by rw [World.cell?_setCell_other _ _ _ _ (by simp)]; exact h1
 have o2:((w.setCell ⟨B,0,none⟩ a).setCell ⟨B,1,none⟩ b).cell? ⟨B,2,none⟩=some c':=by rw [World.cell?_setCell_other _ _ _ _ (by simp),World.cell?_setCell_other _ _ _ _ (by simp)]; exact h2
 have o3:(((w.setCell ⟨B,0,none⟩ a).setCell ⟨B,1,none⟩ b).setCell ⟨B,2,none⟩ c).cell? ⟨B,3,none⟩=some d':=by rw [World.cell?_setCell_other _ _ _ _ (by simp),World.cell?_setCell_other _ _ _ _ (by simp),World.cell?_setCell_other _ _ _ _ (by simp)]; exact h3
 refine ⟨?_,?_,?_,?_⟩
 ·rw [World.cell?_setCell_other _ _ _ _ (by simp),World.cell?_setCell_other _ _ _ _ (by simp),World.cell?_setCell_other _ _ _ _ (by simp)]
  exact World.cell?_setCell_same _ _ _ h0
 ·rw [World.cell?_setCell_other _ _ _ _ (by simp),World.cell?_setCell_other _ _ _ _ (by simp)]
  exact World.cell?_setCell_same _ _ _ o1
 ·rw [World.cell?_setCell_other _ _ _ _ (by simp)]
  exact World.cell?_setCell_same _ _ _ o2
 ·exact World.cell?_setCell_same _ _ _ o3

theorem set4_below {w w1:World} (h:Below w.heap.size w w1) (B:Nat) (hB:w.heap.size≤B) (a b c d:Value):Below w.heap.size w (set4 w1 B a b c d) :=
 (((h.setCell hB _).setCell hB _).setCell hB _).setCell hB _

theorem two_blocks {w w1:World} {a b c d x y z u:Value} {t1 t2:TypeId}
  (hb:Below ((w.alloc (.cells #[a,b,c,d] t1)).alloc (.cells #[x,y,z,u] t2)).drew.heap.size ((w.alloc (.cells #[a,b,c,d] t1)).alloc (.cells #[x,y,z,u] t2)).drew w1) :
  (w1.cell? ⟨w.heap.size,0,none⟩=some a∧w1.cell? ⟨w.heap.size,1,none⟩=some b∧w1.cell? ⟨w.heap.size,2,none⟩=some c∧w1.cell? ⟨w.heap.size,3,none⟩=some d) ∧
  (w1.frozen? ⟨w.heap.size,0,none⟩=false∧w1.frozen? ⟨w.heap.size,1,none⟩=false∧w1.frozen? ⟨w.heap.size,2,none⟩=false∧w1.frozen? ⟨w.heap.size,3,none⟩=false) ∧
  (w1.cell? ⟨w.heap.size+1,0,none⟩=some x∧w1.cell? ⟨w.heap.size+1,1,none⟩=some y∧w1.cell? ⟨w.heap.size+1,2,none⟩=some z∧w1.cell? ⟨w.heap.size+1,3,none⟩=some u)∧Below w.heap.size w w1:=by
 have hA:∀ o,w1.cell? ⟨w.heap.size,o,none⟩=#[a,b,c,d][o]?:=fun o => by
  rw [hb.cell (p:=⟨w.heap.size,o,none⟩) (by show w.heap.size < _; simp; omega)]
  show ((w.alloc (.cells #[a,b,c,d] t1)).alloc (.cells #[x,y,z,u] t2)).cell? _=_
  rw [World.cell?_alloc_lt _ _ _ (by show w.heap.size < _; simp),World.cell?_alloc_at _ _ _ _ rfl]
 have hF:∀ o,w1.frozen? ⟨w.heap.size,o,none⟩=false:=fun o => by
  rw [hb.frozen (p:=⟨w.heap.size,o,none⟩) (by show w.heap.size < _; simp; omega)]
  show ((w.alloc (.cells #[a,b,c,d] t1)).alloc (.cells #[x,y,z,u] t2)).frozen? _=_
  simp
 have hC:∀ o,w1.cell? ⟨w.heap.size+1,o,none⟩=#[x,y,z,u][o]?:=fun o => by
  rw [hb.cell (p:=⟨w.heap.size+1,o,none⟩) (by show w.heap.size+1 < _; simp)]
  show ((w.alloc (.cells #[a,b,c,d] t1)).alloc (.cells #[x,y,z,u] t2)).cell? _=_
  rw [World.cell?_alloc_at _ _ _ _ (by simp)]
 exact⟨⟨hA 0,hA 1,hA 2,hA 3⟩,⟨hF 0,hF 1,hF 2,hF 3⟩,⟨hC 0,hC 1,hC 2,hC 3⟩,below2' (((Below.refl _ _).alloc (Nat.le_refl _) _).alloc (by simp) _).drew hb⟩

theorem vatake_out (l:List UInt8) (_hl:l.length≤4294967296) (p:Int) (hp:p < 0∨(l.length:Int) < p) (w:World) :
  Calls Tryz.prog 171 #[.string ⟨l.toArray⟩,.int .i64 p] w fun e w' => e=.returned (tripleW (vaTake l p))∧Below w.heap.size w w':=by
 have HR:Hid (vaTake l p=(Val.zero,0,1)):=by show _=_; unfold vaTake; rw [if_pos hp]
 rcases hp with h | h
 all_goals
  go_enter Tryz.func171,Tryz.ntmps171
  go_wp2_with fail
  exact bodyPost_ret (v:=tripleW (Val.zero,0,1)) (by simp [results,Tryz.results171,go_sem,tripleW,valV,Val.zero]) rfl ⟨by rw [HR.out],(Below.refl _ _).alloc (Nat.le_refl _) _⟩

theorem vatake_cut (l:List UInt8) (_hl:l.length≤4294967296) (q:Nat) (hq:q≤l.length) (h2:l.length < q+2) (w:World) :
  Calls Tryz.prog 171 #[.string ⟨l.toArray⟩,.int .i64 q] w fun e w' => e=.returned (tripleW (vaTake l q))∧Below w.heap.size w w':=by
 have HR:Hid (vaTake l q=(Val.zero,0,2)):=by show _=_; unfold vaTake; rw [if_neg (by omega),if_pos (by omega)]
 go_enter Tryz.func171,Tryz.ntmps171
 go_wp2_with fail
 exact bodyPost_ret (v:=tripleW (Val.zero,0,2)) (by simp [results,Tryz.results171,go_sem,tripleW,valV,Val.zero]) rfl ⟨by rw [HR.out],(Below.refl _ _).alloc (Nat.le_refl _) _⟩

theorem vatake_get (l:List UInt8) (hl:l.length≤4294967296) (q:Nat) (h2:q+2≤l.length) {n f er:Nat} (hg:Hid (vget l ((q:Int)+2)=(n,f,er))) (he:er ≠ 0) (w:World) :
  Calls Tryz.prog 171 #[.string ⟨l.toArray⟩,.int .i64 q] w fun e w' => e=.returned (tripleW (vaTake l q))∧Below w.heap.size w w':=by
 have HR:Hid (vaTake l q=(Val.zero,0,er)):=by show _=_; unfold vaTake; rw [if_neg (by omega),if_neg (by omega),hg.out,if_pos he]
 have t1:((er:Int) != 0)=true:=by simp; omega
 clear he
 go_enter Tryz.func171,Tryz.ntmps171
 go_wp2_with fail
 refine (get_eq l hl _ _ hg).mono ?_
 rintro e w' ⟨rfl,rfl⟩
 go_wp2_with fail
 exact bodyPost_ret (v:=tripleW (Val.zero,0,er)) (by simp [results,Tryz.results171,go_sem,tripleW,valV,Val.zero]) rfl ⟨by rw [HR.out],(Below.refl _ _).alloc (Nat.le_refl _) _⟩

theorem vatake_text (l:List UInt8) (hl:l.length≤4294967296) (q:Nat) (h2:q+2≤l.length) {n f:Nat} (hg:Hid (vget l ((q:Int)+2)=(n,f,0))) {t:List UInt8} {k er:Nat} (ht:Hid (vtake l f 32=(t,k,er))) (he:er ≠ 0) (w:World) :
  Calls Tryz.prog 171 #[.string ⟨l.toArray⟩,.int .i64 q] w fun e w' => e=.returned (tripleW (vaTake l q))∧Below w.heap.size w w':=by
 have HR:Hid (vaTake l q=(Val.zero,0,er)):=by show _=_; unfold vaTake; rw [if_neg (by omega),if_neg (by omega),hg.out]; simp only [ne_eq,not_true_eq_false,if_false]; rw [ht.out,if_pos he]
 have t1:((er:Int) != 0)=true:=by simp; omega
 clear he
 go_enter Tryz.func171,Tryz.ntmps171
 go_wp2_with fail
 refine (get_eq l hl _ _ hg).mono ?_
 rintro e w' ⟨rfl,rfl⟩
 go_wp2_with fail
 refine (take_eq32 l hl _ _ ht).mono ?_
 rintro e w' ⟨rfl,rfl⟩
 go_wp2_with fail
 exact bodyPost_ret (v:=tripleW (Val.zero,0,er)) (by simp [results,Tryz.results171,go_sem,tripleW,valV,Val.zero]) rfl ⟨by rw [HR.out],(Below.refl _ _).alloc (Nat.le_refl _) _⟩

theorem vatake_end (l:List UInt8) (hl:l.length≤4294967296) (q:Nat) (h2:q+2≤l.length) {n f:Nat} (hg:Hid (vget l ((q:Int)+2)=(n,f,0))) {t:List UInt8} {k:Nat} (ht:Hid (vtake l f 32=(t,k,0))) (w:World) :
  Calls Tryz.prog 171 #[.string ⟨l.toArray⟩,.int .i64 q] w fun e w' => e=.returned (tripleW (vaTake l q))∧Below w.heap.size w w':=by
 have hn:=(vget_facts hg.out).1
 have hq1:q < (⟨l.toArray⟩ : ByteArray).size:=by rw [size_bytes]; omega
 have hq2:q+1 < (⟨l.toArray⟩ : ByteArray).size:=by rw [size_bytes]; omega
 obtain⟨x,hx⟩ : ∃ x:UInt8,(⟨l.toArray⟩ : ByteArray)[q]'hq1=x:=⟨_,rfl⟩
 obtain⟨y,hy⟩ : ∃ y:UInt8,(⟨l.toArray⟩ : ByteArray)[q+1]'hq2=y:=⟨_,rfl⟩
 have hx256:=x.toNat_lt
 have hy256:=y.toNat_lt
 have htl:=(vtake_bytes ht.out).2.2.2
 have HX:Hid (l.getD q 0=x):=by show _=_; rw [← hx,List.getD,bytes_at l q hq1]; rfl
 have HY:Hid (l.getD (q+1) 0=y):=by show _=_; rw [← hy,List.getD,bytes_at l (q+1) hq2]; rfl
 have HTw:Hid (vaTwo l q n t=⟨x.toNat,(y.toNat:Int) - 128,n,t⟩):=by show _=_; unfold vaTwo; simp only [Int.toNat_natCast]; rw [HX.out,HY.out]
 have HE:Hid (vaTake l q=if vaMay ⟨x.toNat,(y.toNat:Int) - 128,n,t⟩=false then (Val.zero,0,3) else (⟨x.toNat,(y.toNat:Int) - 128,n,t⟩,k,0)):=by
  show _=_
  unfold vaTake; rw [if_neg (by omega),if_neg (by omega),hg.out]; simp only [ne_eq,not_true_eq_false,if_false]; rw [ht.out]; simp only [not_true_eq_false,if_false]; rw [HTw.out]
 by_cases hs:n < 9223372036854775808
 ·have e1:IntKind.i64.wrap (n:Int)=n:=IntWalk.i64_in _ (by omega)
  have e2:IntKind.i64.wrap ((y.toNat:Int) - 128)=(y.toNat:Int) - 128:=IntWalk.i64_in _ (by omega)
  have e3:IntKind.i64.wrap ((q:Int)+1)=(q:Int)+1:=IntWalk.i64_in _ (by omega)
  have e4:((q:Int)+1).toNat=q+1:=by omega
  cases hm:vaMay ⟨x.toNat,(y.toNat:Int) - 128,n,t⟩ with
  | false =>
   have HR:=HE.out
   rw [if_pos hm] at HR
   have HR':=hZq HR
   have HM:=hZq (may_eq x.toNat ((y.toNat:Int)+-128) n t (by omega) (hZq (show vaMay ⟨x.toNat,(y.toNat:Int)+-128,n,t⟩=false from hm)))
   clear HR hm HE
   go_enter Tryz.func171,Tryz.ntmps171
   go_wp2_with fail
   refine (get_eq l hl _ _ hg).mono ?_
   rintro e w' ⟨rfl,rfl⟩
   go_wp2_with fail
   refine (take_eq32 l hl _ _ ht).mono ?_
   rintro e w' ⟨rfl,rfl⟩
   go_wp2_with fail
   go_region
   go_wp2_with fail
   refine (HM.out _).mono ?_
   rintro e w1 ⟨rfl,hb1⟩
   obtain⟨⟨q0,q1,q2,q3⟩,⟨f0,f1,f2,f3⟩,⟨s0,s1,s2,s3⟩,hB1⟩:=two_blocks hb1
   have HB1:=hZq hB1
   clear hb1 hB1
   go_wp2_with fail
   obtain⟨r0,r1,r2,r3⟩:=four_set w1 w.heap.size (.int .i64 0) (.int .i64 0) (.int .i64 0) (.string ⟨#[]⟩) _ _ _ _ q0 q1 q2 q3
   unfold set4 at r0 r1 r2 r3
   exact bodyPost_ret (v:=tripleW (Val.zero,0,3)) (by simp [results,Tryz.results171,go_sem,tripleW,valV,Val.zero,r0,r1,r2,r3]) rfl ⟨by rw [HR'.out],set4_below HB1.out _ (Nat.le_refl _) _ _ _ _⟩
  | true =>
   have HR:=HE.out
   rw [if_neg (by rw [hm]; decide)] at HR
   have HR':=hZq HR
   have HM:=hZq (may_eq x.toNat ((y.toNat:Int)+-128) n t (by omega) (hZq (show vaMay ⟨x.toNat,(y.toNat:Int)+-128,n,t⟩=true from hm)))
   clear HR hm HE
   go_enter Tryz.func171,Tryz.ntmps171
   go_wp2_with fail
   refine (get_eq l hl _ _ hg).mono ?_
   rintro e w' ⟨rfl,rfl⟩
   go_wp2_with fail
   refine (take_eq32 l hl _ _ ht).mono ?_
   rintro e w' ⟨rfl,rfl⟩
   go_wp2_with fail
   go_region
   go_wp2_with fail
   refine (HM.out _).mono ?_
   rintro e w1 ⟨rfl,hb1⟩
   obtain⟨⟨q0,q1,q2,q3⟩,⟨f0,f1,f2,f3⟩,⟨s0,s1,s2,s3⟩,hB1⟩:=two_blocks hb1
   have HB1:=hZq hB1
   clear hb1 hB1
   go_wp2_with fail
   obtain⟨r0,r1,r2,r3⟩:=four_set w1 w.heap.size (.int .i64 x.toNat) (.int .i64 ((y.toNat:Int)+-128)) (.int .i64 n) (.string ⟨t.toArray⟩) _ _ _ _ q0 q1 q2 q3
   unfold set4 at r0 r1 r2 r3
   exact bodyPost_ret (v:=tripleW (⟨x.toNat,(y.toNat:Int)+-128,n,t⟩,k,0)) (by simp [results,Tryz.results171,go_sem,tripleW,valV,r0,r1,r2,r3]) rfl ⟨by rw [HR'.out]; rfl,set4_below HB1.out _ (Nat.le_refl _) _ _ _ _⟩
 ·have e2:IntKind.i64.wrap ((y.toNat:Int) - 128)=(y.toNat:Int) - 128:=IntWalk.i64_in _ (by omega)
  have e3:IntKind.i64.wrap ((q:Int)+1)=(q:Int)+1:=IntWalk.i64_in _ (by omega)
  have e4:((q:Int)+1).toNat=q+1:=by omega
  obtain⟨c,hc,hneg⟩ : ∃ c,IntKind.i64.wrap (n:Int)=c∧c < 0:=⟨_,rfl,by
   have:IntKind.i64.wrap (n:Int)=(n:Int) - 18446744073709551616:=wrap_high n (by omega) hn
   rw [this]; omega⟩
  have hm0:vaMay ⟨x.toNat,(y.toNat:Int) - 128,n,t⟩=false:=by
   unfold vaMay
   rcases numsOk_cases (x.toNat:Int) ((y.toNat:Int) - 128) (n:Int) with ⟨_,h⟩ | ⟨h,_⟩
   ·omega
   ·simp only; rw [h]; rfl
  have hm:vaMay ⟨x.toNat,(y.toNat:Int)+-128,c,t⟩=false:=by
   unfold vaMay
   rcases numsOk_cases (x.toNat:Int) ((y.toNat:Int)+-128) c with ⟨_,h⟩ | ⟨h,_⟩
   ·omega
   ·simp only; rw [h]; rfl
  have HR:=HE.out
  rw [if_pos hm0] at HR
  have HR':=hZq HR
  have HM:=hZq (may_eq x.toNat ((y.toNat:Int)+-128) c t (by omega) (hZq hm))
  clear HR hm hm0 HE hs
  go_enter Tryz.func171,Tryz.ntmps171
  go_wp2_with fail
  refine (get_eq l hl _ _ hg).mono ?_
  rintro e w' ⟨rfl,rfl⟩
  go_wp2_with fail
  refine (take_eq32 l hl _ _ ht).mono ?_
  rintro e w' ⟨rfl,rfl⟩
  go_wp2_with fail
  go_region
  go_wp2_with fail
  refine (HM.out _).mono ?_
  rintro e w1 ⟨rfl,hb1⟩
  obtain⟨⟨q0,q1,q2,q3⟩,⟨f0,f1,f2,f3⟩,⟨s0,s1,s2,s3⟩,hB1⟩:=two_blocks hb1
  have HB1:=hZq hB1
  clear hb1 hB1
  go_wp2_with fail
  obtain⟨r0,r1,r2,r3⟩:=four_set w1 w.heap.size (.int .i64 0) (.int .i64 0) (.int .i64 0) (.string ⟨#[]⟩) _ _ _ _ q0 q1 q2 q3
  unfold set4 at r0 r1 r2 r3
  exact bodyPost_ret (v:=tripleW (Val.zero,0,3)) (by simp [results,Tryz.results171,go_sem,tripleW,valV,Val.zero,r0,r1,r2,r3]) rfl ⟨by rw [HR'.out],set4_below HB1.out _ (Nat.le_refl _) _ _ _ _⟩

theorem vatake_any (l:List UInt8) (hl:l.length≤4294967296) (p:Int) (w:World) :
  Calls Tryz.prog 171 #[.string ⟨l.toArray⟩,.int .i64 p] w fun e w' => e=.returned (tripleW (vaTake l p))∧Below w.heap.size w w':=by
 by_cases hp:p < 0∨(l.length:Int) < p
 ·exact vatake_out l hl p hp w
 ·obtain⟨q,rfl⟩:=Int.eq_ofNat_of_zero_le (show 0≤p by omega)
  by_cases h2:l.length < q+2
  ·exact vatake_cut l hl q (by omega) h2 w
  ·obtain⟨n,f,er,hg⟩ : ∃ n f er,vget l ((q:Int)+2)=(n,f,er):=⟨_,_,_,rfl⟩
   by_cases he:er=0
   ·subst he
    obtain⟨t,k,es,ht⟩ : ∃ t k es,vtake l f 32=(t,k,es):=⟨_,_,_,rfl⟩
    by_cases hes:es=0
    ·subst hes
     exact vatake_end l hl q (by omega) (hZq hg) (hZq ht) w
    ·exact vatake_text l hl q (by omega) (hZq hg) (hZq ht) hes w
   ·exact vatake_get l hl q (by omega) (hZq hg) he w

theorem vatake_eq (l:List UInt8) (hl:l.length≤4294967296) (p:Int) {a b c:Int} {t:List UInt8} {f er:Nat} (h:Hid (vaTake l p=(⟨a,b,c,t⟩,f,er))) (w:World) :
  Calls Tryz.prog 171 #[.string ⟨l.toArray⟩,.int .i64 p] w fun e w' => e=.returned (.tuple #[.agg #[.int .i64 a,.int .i64 b,.int .i64 c,.string ⟨t.toArray⟩],.int .i64 f,.int .i64 er])∧Below w.heap.size w w':=by
 have:=vatake_any l hl p w
 rwa [h.out] at this

end Go.Proofs.YtekkofldhhdpgaaGreat
