/-
 TEXTS OF THE PROOF, one behind the other: FraDec, FraRsame, FraSame.
-/
import Derived.Test.YtekkofldhhdpgaaGreatD21
import Derived.Test.YtekkofldhhdpgaaGreatD13
import Derived.Test.YtekkofldhhdpgaaGreatD12

set_option maxHeartbeats 12800000
set_option maxRecDepth 100000

section

namespace Go.Proofs.YtekkofldhhdpgaaGreat
open Go.RowKit

theorem idTake_shortF {l:List UInt8} {p:Int} {t:List UInt8} {f er:Nat} (h:idTake l p=(t,f,er)):t.length≤l.length:=by
 unfold idTake at h
 split at h
 ·simp only [Prod.mk.injEq] at h; rw [← h.1]; simp
 ·split at h
  ·exact vtake_short h
  ·simp only [Prod.mk.injEq] at h; rw [← h.1]; simp

theorem vaTake_shortF {l:List UInt8} {p:Int} {v:Val} {f er:Nat} (h:vaTake l p=(v,f,er)):v.st.length≤l.length:=by
 unfold vaTake at h
 split at h
 ·simp only [Prod.mk.injEq] at h; rw [← h.1]; simp [Val.zero]
 ·split at h
  ·simp only [Prod.mk.injEq] at h; rw [← h.1]; simp [Val.zero]
  ·split at h
   ·simp only [Prod.mk.injEq] at h; rw [← h.1]; simp [Val.zero]
   ·split at h
    ·simp only [Prod.mk.injEq] at h; rw [← h.1]; simp [Val.zero]
    ·split at h
     ·simp only [Prod.mk.injEq] at h; rw [← h.1]; simp [Val.zero]
     ·simp only [Prod.mk.injEq] at h
      rw [← h.1]
      exact vtake_short (er:=(vtake l (vget l (p+2)).2.1 32).2.2) (f:=(vtake l (vget l (p+2)).2.1 32).2.1) rfl

theorem diTake_shortF (l:List UInt8) (p:Int):Short (diTake l p).1:=by
 unfold diTake
 split
 ·exact fun r hr => by simp at hr
 ·split
  ·exact fun r hr => by simp at hr
  ·split
   ·exact fun r hr => by simp at hr
   ·split
    ·exact fun r hr => by simp at hr
    ·rename_i h
     exact ok_short (diMay_iff.1 (by simpa using h)).2.1

structure FrShort (g:Frm):Prop where
 c:g.c.length≤4294967296
 st:g.v.st.length≤4294967296
 t:Short g.t
 sum:g.sum < 18446744073709551616

theorem frShort_zero:FrShort Frm.zero:=⟨by simp [Frm.zero],by simp [Frm.zero,Val.zero],fun r hr => by simp [Frm.zero] at hr,by simp [Frm.zero]⟩

theorem tkBody_short (k:Nat) (b:List UInt8) (hb:b.length≤4294967296):FrShort ((tkBody k b).getD Frm.zero):=by
 unfold tkBody
 split
 ·unfold tkDelta
  repeat' split
  all_goals (first | exact frShort_zero | skip)
  ·exact⟨Nat.le_trans (idTake_shortF rfl) hb,by simp [Val.zero],fun r hr => by simp at hr,by simp⟩
  ·exact⟨Nat.le_trans (idTake_shortF rfl) hb,Nat.le_trans (vaTake_shortF rfl) hb,fun r hr => by simp at hr,by simp⟩
 ·split
  ·unfold tkDigest
   split
   ·exact frShort_zero
   ·exact⟨by simp,by simp [Val.zero],fun r hr => by simp at hr,sum8_take _⟩
  ·split
   ·unfold tkSnapshot
    split
    ·exact frShort_zero
    ·exact⟨by simp,by simp [Val.zero],diTake_shortF b 0,by simp⟩
   ·exact frShort_zero

theorem tkAll_short {t:List UInt8} (ht:t.length≤4294967296) {og:Option Frm} {k q:Int} (h:tkAll t=(og,k,q)):FrShort (og.getD Frm.zero):=by
 unfold tkAll at h
 split at h
 ·simp only [Prod.mk.injEq] at h; rw [← h.1]; exact frShort_zero
 ·split at h
  ·simp only [Prod.mk.injEq] at h; rw [← h.1]; exact frShort_zero
  ·split at h
   ·simp only [Prod.mk.injEq] at h; rw [← h.1]; exact frShort_zero
   ·simp only [Prod.mk.injEq] at h; rw [← h.1]
    exact tkBody_short _ _ (by rw [List.length_drop]; omega)

theorem frTakeBody_tk (k n:Nat) (b:List UInt8) (h1:1≤k) (h4:k≤4):frTakeBody k n b=(tkBody k b).map fun g => ⟨k,n,g.on,g.c,g.v,g.sum,g.t⟩:=by
 have hk:k=1∨k=2∨k=3∨k=4:=by omega
 unfold frTakeBody tkBody
 rcases hk with rfl | rfl | rfl | rfl
 ·simp only [if_true]
  unfold tkDelta
  repeat' split
  all_goals (first | rfl | simp_all)
 ·simp only [show ¬ (2=1) by omega,if_false,if_true]
  unfold tkDigest
  split <;> rfl
 ·simp only [show ¬ (3=1) by omega,show ¬ (3=2) by omega,if_false,if_true]
  unfold tkSnapshot
  split <;> rfl
 ·simp only [show ¬ (4=1) by omega,show ¬ (4=2) by omega,show ¬ (4=3) by omega,if_false]
  rfl

theorem frMay_far {k s:Int} {on:Bool} {c:List UInt8} {v:Val} {sum:Nat} {t:List Row} (h:s < 0∨1099511627776 < s):frMay ⟨k,s,on,c,v,sum,t⟩=false:=by
 cases hm:frMay ⟨k,s,on,c,v,sum,t⟩ with
 | false => rfl
 | true =>
  obtain⟨_,_,h0,h1,_⟩:=frMay_iff.1 hm
  simp only at h0 h1
  omega

theorem wrap_small {n:Nat} (h:n≤1099511627776):IntKind.i64.wrap (n:Int)=n:=by
 rw [wrap_i64F]; unfold wrap64; omega

theorem wrap_far {n:Nat} (h:1099511627776 < n) (hn:n < 18446744073709551616):IntKind.i64.wrap (n:Int) < 0∨1099511627776 < IntKind.i64.wrap (n:Int):=by
 rw [wrap_i64F]; unfold wrap64; omega

theorem frDec_tk {s t:List UInt8} (ht:copen s=(t,0)) {og:Option Frm} {k q:Int} (h:tkAll t=(og,k,q)) :
  (og=none→frDec s=(Frm.zero,3))∧∀ g,og=some g→frDec s=if frMay ⟨k,q,g.on,g.c,g.v,g.sum,g.t⟩=true∧frPlain ⟨k,q,g.on,g.c,g.v,g.sum,g.t⟩=t then (⟨k,q,g.on,g.c,g.v,g.sum,g.t⟩,0) else (Frm.zero,3):=by
 unfold frDec
 rw [ht]
 simp only [ne_eq,not_true_eq_false,if_false]
 unfold tkAll at h
 unfold frTake
 cases t with
 | nil =>
  simp only [Prod.mk.injEq] at h
  refine ⟨fun _ => rfl,fun g hg => ?_⟩
  rw [← h.1] at hg
  cases hg
 | cons x r =>
  simp only at h ⊢
  by_cases hk:x.toNat < 1∨4 < x.toNat
  ·rw [if_pos hk] at h ⊢
   simp only [Prod.mk.injEq] at h
   refine ⟨fun _ => rfl,fun g hg => ?_⟩
   rw [← h.1] at hg
   cases hg
  ·rw [if_neg hk] at h ⊢
   by_cases he:(vget (x :: r) 1).2.2 ≠ 0
   ·rw [if_pos he] at h ⊢
    simp only [Prod.mk.injEq] at h
    refine ⟨fun _ => rfl,fun g hg => ?_⟩
    rw [← h.1] at hg
    cases hg
   ·rw [if_neg he] at h ⊢
    simp only [Prod.mk.injEq] at h
    obtain⟨h1,rfl,rfl⟩:=h
    rw [frTakeBody_tk _ _ _ (by omega) (by omega),h1]
    refine ⟨fun h => by rw [h]; rfl,fun g hg => ?_⟩
    subst hg
    simp only [Option.map_some]
    by_cases hn:(vget (x :: r) 1).1≤1099511627776
    ·rw [wrap_small hn]
    ·have hf:=wrap_far (by omega:1099511627776 < (vget (x :: r) 1).1) (vget_facts (l:=x :: r) (p:=1) rfl).1
     rw [if_neg (fun h => by rw [frMay_far (.inr (by omega))] at h; simp at h),if_neg (fun h => by rw [frMay_far hf] at h; simp at h)]

theorem frtake_any (l:List UInt8) (hl:l.length≤4294967296) (w:World):Calls Tryz.prog 93 #[.string ⟨l.toArray⟩] w (TookA (tkAll l) w):=by
 cases l with
 | nil => exact take_nil w
 | cons x b =>
  by_cases hk:x.toNat < 1∨4 < x.toNat
  ·exact take_kind x b hk w
  ·obtain⟨n,f,er,hg⟩ : ∃ n f er,vget (x :: b) 1=(n,f,er):=⟨_,_,_,rfl⟩
   by_cases he:er=0
   ·subst he
    have h4:x.toNat=1∨x.toNat=2∨x.toNat=3∨x.toNat=4:=by omega
    rcases h4 with h | h | h | h
    ·exact take_at1 x h b hl (hZq hg) w
    ·exact take_at2 x h b hl (hZq hg) w
    ·exact take_at3 x h b hl (hZq hg) w
    ·exact take_at4 x h b hl (hZq hg) w
   ·exact take_get x b hl hk hg he w

theorem take_f (l:List UInt8) (hl:l.length≤4294967296) {og:Option Frm} {k q sh pr si:Int} {on:Bool} {c st:List UInt8} {sum:Nat} {tt:List Row} {k0 q0:Int} {ok:Bool} (h:Hid (tkAll l=(og,k,q))) (hg:Hid (og.getD Frm.zero=⟨k0,q0,on,c,⟨sh,pr,si,st⟩,sum,tt⟩)) (hok:Hid (og.isSome=ok)) (w:World) :
  Calls Tryz.prog 93 #[.string ⟨l.toArray⟩] w fun e w' => ∃ v,e=.returned (.tuple #[.agg #[.int .i64 k,.int .i64 q,.bool on,.string ⟨c.toArray⟩,.int .i64 sh,.int .i64 pr,.int .i64 si,.string ⟨st.toArray⟩,.int .u64 sum,v],.bool ok])∧OwnR w' w.heap.size v tt∧Below w.heap.size w w':=by
 have:=frtake_any l hl w
 unfold TookA at this
 rw [h.out] at this
 simp only [hg.out,hok.out,frAgg] at this
 exact this

theorem frmay_eqF {w:World} {v:Value} {k q sh pr si:Int} {on:Bool} {c st:List UInt8} {sum:Nat} {tt:List Row} (hv:Tab w v tt) (hsh:Short tt) (hc:c.length≤4294967296) (hs:st.length≤4294967296) {r:Bool} (h:Hid (frMay ⟨k,q,on,c,⟨sh,pr,si,st⟩,sum,tt⟩=r)) :
  Calls Tryz.prog 60 #[.agg #[.int .i64 k,.int .i64 q,.bool on,.string ⟨c.toArray⟩,.int .i64 sh,.int .i64 pr,.int .i64 si,.string ⟨st.toArray⟩,.int .u64 sum,v]] w fun e w' => e=.returned (.bool r)∧Below w.heap.size w w':=by
 have:=frmay_any hv hsh k q on c sh pr si st sum hc hs
 rw [h.out] at this
 exact this

theorem frput_eqF {w:World} {v:Value} {k q sh pr si:Int} {on:Bool} {c st:List UInt8} {sum:Nat} {tt:List Row} (hv:Tab w v tt) (hsh:Short tt) (hs:sum < 18446744073709551616) (hm:Hid (frMay ⟨k,q,on,c,⟨sh,pr,si,st⟩,sum,tt⟩=true)) {p:List UInt8} (h:Hid (frPlain ⟨k,q,on,c,⟨sh,pr,si,st⟩,sum,tt⟩=p)) :
  Calls Tryz.prog 94 #[.agg #[.int .i64 k,.int .i64 q,.bool on,.string ⟨c.toArray⟩,.int .i64 sh,.int .i64 pr,.int .i64 si,.string ⟨st.toArray⟩,.int .u64 sum,v]] w fun e w' => e=.returned (.string ⟨p.toArray⟩)∧Below w.heap.size w w':=by
 have:=frput_any hv hsh k q on c sh pr si st sum hs hm.out
 rw [h.out] at this
 exact this

theorem open_eqF (l:List UInt8) (hl:l.length≤4294967296) {t:List UInt8} {er:Nat} (h:Hid (copen l=(t,er))) (w:World) :
  Calls Tryz.prog 92 #[.string ⟨l.toArray⟩] w fun e w' => e=.returned (.tuple #[.string ⟨t.toArray⟩,.int .i64 er])∧Below w.heap.size w w':=by
 have:=open_any l hl w
 rw [h.out] at this
 exact this

theorem copen_lenF {l t:List UInt8} {er:Nat} (h:copen l=(t,er)):t.length≤l.length:=by
 unfold copen at h
 split at h
 ·simp only [Prod.mk.injEq] at h; rw [← h.1]; simp
 ·split at h
  ·simp only [Prod.mk.injEq] at h; rw [← h.1,List.length_take]; omega
  ·simp only [Prod.mk.injEq] at h; rw [← h.1]; simp

theorem frdec_err (s:List UInt8) (hl:s.length≤4294967296) {t:List UInt8} {er:Nat} (HT:Hid (copen s=(t,er))) (he:er ≠ 0) (w:World) :
  Calls Tryz.prog 57 #[.string ⟨s.toArray⟩] w fun e w' => ∃ v,e=.returned (.tuple #[.agg #[.int .i64 0,.int .i64 0,.bool false,.string ⟨#[]⟩,.int .i64 0,.int .i64 0,.int .i64 0,.string ⟨#[]⟩,.int .u64 0,v],.int .i64 er])∧OwnR w' w.heap.size v []∧Below w.heap.size w w':=by
 have t1:((er:Int) != 0)=true:=by simp; omega
 clear he
 have b0:=bl_newZ w (.cells #[.int .i64 0,.int .i64 0,.bool false,.string ⟨#[]⟩,.int .i64 0,.int .i64 0,.int .i64 0,.string ⟨#[]⟩,.int .u64 0,.slice none 0 0] 29)
 have HB:=hZq b0
 have R:=newQ w (.cells #[.int .i64 0,.int .i64 0,.bool false,.string ⟨#[]⟩,.int .i64 0,.int .i64 0,.int .i64 0,.string ⟨#[]⟩,.int .u64 0,.slice none 0 0] 29)
 replace R:=hZq R
 clear b0
 go_enter Tryz.func57,Tryz.ntmps57
 go_wp2_with fail
 refine (open_eqF s hl HT _).mono ?_
 rintro e w2 ⟨rfl,b2⟩
 replace R:=hZq (upQ R.out b2)
 replace HB:=hZq (below2Z HB.out b2)
 clear b2
 obtain⟨⟨Rc0,Rc1,Rc2,Rc3,Rc4,Rc5,Rc6,Rc7,Rc8,Rc9⟩,⟨Rf0,Rf1,Rf2,Rf3,Rf4,Rf5,Rf6,Rf7,Rf8,Rf9⟩⟩:=blk10 R.out
 go_wp2_with fail
 refine bodyPost_ret (v:=.tuple #[.agg #[.int .i64 0,.int .i64 0,.bool false,.string ⟨#[]⟩,.int .i64 0,.int .i64 0,.int .i64 0,.string ⟨#[]⟩,.int .u64 0,.slice none 0 0],.int .i64 er]) (by simp [results,Tryz.results57,go_sem,Rc0,Rc1,Rc2,Rc3,Rc4,Rc5,Rc6,Rc7,Rc8,Rc9]) rfl ⟨_,rfl,ownR_nil _ _,?_⟩
 exact ((((((((((HB.out.setCell (Nat.le_refl _) _).setCell (Nat.le_refl _) _).setCell (Nat.le_refl _) _).setCell (Nat.le_refl _) _).setCell (Nat.le_refl _) _).setCell (Nat.le_refl _) _).setCell (Nat.le_refl _) _).setCell (Nat.le_refl _) _).setCell (Nat.le_refl _) _).setCell (Nat.le_refl _) _)

theorem frdec_cut (s:List UInt8) (hl:s.length≤4294967296) {t:List UInt8} (HT:Hid (copen s=(t,0))) (htl:t.length≤4294967296) {og:Option Frm} {k q sh pr si:Int} {on:Bool} {c st:List UInt8} {sum:Nat} {tt:List Row} {k0 q0:Int} (HE:Hid (tkAll t=(og,k,q))) (HG:Hid (og.getD Frm.zero=⟨k0,q0,on,c,⟨sh,pr,si,st⟩,sum,tt⟩)) (HK:Hid (og.isSome=false)) (w:World) :
  Calls Tryz.prog 57 #[.string ⟨s.toArray⟩] w fun e w' => ∃ v,e=.returned (.tuple #[.agg #[.int .i64 0,.int .i64 0,.bool false,.string ⟨#[]⟩,.int .i64 0,.int .i64 0,.int .i64 0,.string ⟨#[]⟩,.int .u64 0,v],.int .i64 3])∧OwnR w' w.heap.size v []∧Below w.heap.size w w':=by
 have b0:=bl_newZ w (.cells #[.int .i64 0,.int .i64 0,.bool false,.string ⟨#[]⟩,.int .i64 0,.int .i64 0,.int .i64 0,.string ⟨#[]⟩,.int .u64 0,.slice none 0 0] 29)
 have HB:=hZq b0
 have R:=newQ w (.cells #[.int .i64 0,.int .i64 0,.bool false,.string ⟨#[]⟩,.int .i64 0,.int .i64 0,.int .i64 0,.string ⟨#[]⟩,.int .u64 0,.slice none 0 0] 29)
 replace R:=hZq R
 clear b0
 go_enter Tryz.func57,Tryz.ntmps57
 go_wp2_with fail
 refine (open_eqF s hl HT _).mono ?_
 rintro e w2 ⟨rfl,b2⟩
 replace R:=hZq (upQ R.out b2)
 replace HB:=hZq (below2Z HB.out b2)
 clear b2
 go_wp2_with fail
 have hRl:=(Array.getElem?_eq_some_iff.1 R.out).1
 refine (take_f t htl HE HG HK _).mono ?_
 rintro e w3 ⟨v,rfl,hov,b3⟩
 replace R:=hZq (upQ R.out b3)
 replace HB:=hZq (below2Z HB.out b3)
 obtain⟨va,vc,rfl,-⟩:=Tab.open' (OwnR.tab hov)
 have V:=hZq (OwnR.mono hov (Nat.succ_le_of_lt hRl))
 clear hov hRl
 clear b3
 obtain⟨⟨Rc0,Rc1,Rc2,Rc3,Rc4,Rc5,Rc6,Rc7,Rc8,Rc9⟩,⟨Rf0,Rf1,Rf2,Rf3,Rf4,Rf5,Rf6,Rf7,Rf8,Rf9⟩⟩:=blk10 R.out
 have hR:=(Array.getElem?_eq_some_iff.1 R.out).1
 go_wp2_with fail
 refine bodyPost_ret (v:=.tuple #[.agg #[.int .i64 0,.int .i64 0,.bool false,.string ⟨#[]⟩,.int .i64 0,.int .i64 0,.int .i64 0,.string ⟨#[]⟩,.int .u64 0,.slice none 0 0],.int .i64 3]) (by simp [results,Tryz.results57,go_sem,Rc0,Rc1,Rc2,Rc3,Rc4,Rc5,Rc6,Rc7,Rc8,Rc9,World.cell?_alloc_lt,hR]) rfl ⟨_,rfl,ownR_nil _ _,?_⟩
 exact (((((((((((HB.out.setCell (Nat.le_refl _) _).setCell (Nat.le_refl _) _).setCell (Nat.le_refl _) _).setCell (Nat.le_refl _) _).setCell (Nat.le_refl _) _).setCell (Nat.le_refl _) _).setCell (Nat.le_refl _) _).setCell (Nat.le_refl _) _).setCell (Nat.le_refl _) _).setCell (Nat.le_refl _) _)).alloc (by simp only [setCell_size]; exact HB.out.size) _

theorem frdec_no (s:List UInt8) (hl:s.length≤4294967296) {t:List UInt8} (HT:Hid (copen s=(t,0))) (htl:t.length≤4294967296) {og:Option Frm} {k q sh pr si:Int} {on:Bool} {c st:List UInt8} {sum:Nat} {tt:List Row} {k0 q0:Int} (HE:Hid (tkAll t=(og,k,q))) (HG:Hid (og.getD Frm.zero=⟨k0,q0,on,c,⟨sh,pr,si,st⟩,sum,tt⟩)) (HK:Hid (og.isSome=true)) (HSH:Hid (Short tt)) (hc:c.length≤4294967296) (hst:st.length≤4294967296) (HM:Hid (frMay ⟨k,q,on,c,⟨sh,pr,si,st⟩,sum,tt⟩=false)) (w:World) :
  Calls Tryz.prog 57 #[.string ⟨s.toArray⟩] w fun e w' => ∃ v,e=.returned (.tuple #[.agg #[.int .i64 0,.int .i64 0,.bool false,.string ⟨#[]⟩,.int .i64 0,.int .i64 0,.int .i64 0,.string ⟨#[]⟩,.int .u64 0,v],.int .i64 3])∧OwnR w' w.heap.size v []∧Below w.heap.size w w':=by
 have b0:=bl_newZ w (.cells #[.int .i64 0,.int .i64 0,.bool false,.string ⟨#[]⟩,.int .i64 0,.int .i64 0,.int .i64 0,.string ⟨#[]⟩,.int .u64 0,.slice none 0 0] 29)
 have HB:=hZq b0
 have R:=newQ w (.cells #[.int .i64 0,.int .i64 0,.bool false,.string ⟨#[]⟩,.int .i64 0,.int .i64 0,.int .i64 0,.string ⟨#[]⟩,.int .u64 0,.slice none 0 0] 29)
 replace R:=hZq R
 clear b0
 go_enter Tryz.func57,Tryz.ntmps57
 go_wp2_with fail
 refine (open_eqF s hl HT _).mono ?_
 rintro e w2 ⟨rfl,b2⟩
 replace R:=hZq (upQ R.out b2)
 replace HB:=hZq (below2Z HB.out b2)
 clear b2
 go_wp2_with fail
 have hRl:=(Array.getElem?_eq_some_iff.1 R.out).1
 refine (take_f t htl HE HG HK _).mono ?_
 rintro e w3 ⟨v,rfl,hov,b3⟩
 replace R:=hZq (upQ R.out b3)
 replace HB:=hZq (below2Z HB.out b3)
 obtain⟨va,vc,rfl,-⟩:=Tab.open' (OwnR.tab hov)
 have V:=hZq (OwnR.mono hov (Nat.succ_le_of_lt hRl))
 clear hov hRl
 clear b3
 go_wp2_with fail
 have b4:=bl_newZ w3 (.cells #[.int .i64 k,.int .i64 q,.bool on,.string ⟨c.toArray⟩,.int .i64 sh,.int .i64 pr,.int .i64 si,.string ⟨st.toArray⟩,.int .u64 sum,.slice va tt.length vc] 29)
 have E:=newQ w3 (.cells #[.int .i64 k,.int .i64 q,.bool on,.string ⟨c.toArray⟩,.int .i64 sh,.int .i64 pr,.int .i64 si,.string ⟨st.toArray⟩,.int .u64 sum,.slice va tt.length vc] 29)
 have hE:w.heap.size≤w3.heap.size:=HB.out.size
 replace R:=hZq (upQ R.out b4)
 replace V:=hZq (OwnR.later V.out b4)
 replace HB:=hZq (below2Z HB.out b4)
 clear b4
 replace E:=hZq E
 generalize w3.alloc (.cells #[.int .i64 k,.int .i64 q,.bool on,.string ⟨c.toArray⟩,.int .i64 sh,.int .i64 pr,.int .i64 si,.string ⟨st.toArray⟩,.int .u64 sum,.slice va tt.length vc] 29)=w5 at R E V HB ⊢
 generalize w3.heap.size=BE at E hE ⊢
 obtain⟨⟨Ec0,Ec1,Ec2,Ec3,Ec4,Ec5,Ec6,Ec7,Ec8,Ec9⟩,⟨Ef0,Ef1,Ef2,Ef3,Ef4,Ef5,Ef6,Ef7,Ef8,Ef9⟩⟩:=blk10 E.out
 go_wp2_with fail
 clear Ec0 Ec1 Ec2 Ec3 Ec4 Ec5 Ec6 Ec7 Ec8 Ec9 Ef0 Ef1 Ef2 Ef3 Ef4 Ef5 Ef6 Ef7 Ef8 Ef9
 refine (frmay_eqF (OwnR.tab V.out) HSH.out hc hst HM).mono ?_
 rintro e w6 ⟨rfl,b6⟩
 replace R:=hZq (upQ R.out b6)
 replace E:=hZq (upQ E.out b6)
 replace V:=hZq (OwnR.later V.out b6)
 replace HB:=hZq (below2Z HB.out b6)
 clear b6
 obtain⟨⟨Rc0,Rc1,Rc2,Rc3,Rc4,Rc5,Rc6,Rc7,Rc8,Rc9⟩,⟨Rf0,Rf1,Rf2,Rf3,Rf4,Rf5,Rf6,Rf7,Rf8,Rf9⟩⟩:=blk10 R.out
 go_wp2_with fail
 refine bodyPost_ret (v:=.tuple #[.agg #[.int .i64 0,.int .i64 0,.bool false,.string ⟨#[]⟩,.int .i64 0,.int .i64 0,.int .i64 0,.string ⟨#[]⟩,.int .u64 0,.slice none 0 0],.int .i64 3]) (by simp [results,Tryz.results57,go_sem,Rc0,Rc1,Rc2,Rc3,Rc4,Rc5,Rc6,Rc7,Rc8,Rc9]) rfl ⟨_,rfl,ownR_nil _ _,?_⟩
 exact ((((((((((HB.out.setCell (Nat.le_refl _) _).setCell (Nat.le_refl _) _).setCell (Nat.le_refl _) _).setCell (Nat.le_refl _) _).setCell (Nat.le_refl _) _).setCell (Nat.le_refl _) _).setCell (Nat.le_refl _) _).setCell (Nat.le_refl _) _).setCell (Nat.le_refl _) _).setCell (Nat.le_refl _) _)

theorem frdec_dif (s:List UInt8) (hl:s.length≤4294967296) {t:List UInt8} (HT:Hid (copen s=(t,0))) (htl:t.length≤4294967296) {og:Option Frm} {k q sh pr si:Int} {on:Bool} {c st:List UInt8} {sum:Nat} {tt:List Row} {k0 q0:Int} (HE:Hid (tkAll t=(og,k,q))) (HG:Hid (og.getD Frm.zero=⟨k0,q0,on,c,⟨sh,pr,si,st⟩,sum,tt⟩)) (HK:Hid (og.isSome=true)) (HSH:Hid (Short tt)) (hc:c.length≤4294967296) (hst:st.length≤4294967296) (hsum:sum < 18446744073709551616) (HM:Hid (frMay ⟨k,q,on,c,⟨sh,pr,si,st⟩,sum,tt⟩=true)) {p:List UInt8} (HP:Hid (frPlain ⟨k,q,on,c,⟨sh,pr,si,st⟩,sum,tt⟩=p)) (T1:Hid ((p == t)=false)) (w:World) :
  Calls Tryz.prog 57 #[.string ⟨s.toArray⟩] w fun e w' => ∃ v,e=.returned (.tuple #[.agg #[.int .i64 0,.int .i64 0,.bool false,.string ⟨#[]⟩,.int .i64 0,.int .i64 0,.int .i64 0,.string ⟨#[]⟩,.int .u64 0,v],.int .i64 3])∧OwnR w' w.heap.size v []∧Below w.heap.size w w':=by
 have b0:=bl_newZ w (.cells #[.int .i64 0,.int .i64 0,.bool false,.string ⟨#[]⟩,.int .i64 0,.int .i64 0,.int .i64 0,.string ⟨#[]⟩,.int .u64 0,.slice none 0 0] 29)
 have HB:=hZq b0
 have R:=newQ w (.cells #[.int .i64 0,.int .i64 0,.bool false,.string ⟨#[]⟩,.int .i64 0,.int .i64 0,.int .i64 0,.string ⟨#[]⟩,.int .u64 0,.slice none 0 0] 29)
 replace R:=hZq R
 clear b0
 go_enter Tryz.func57,Tryz.ntmps57
 go_wp2_with fail
 refine (open_eqF s hl HT _).mono ?_
 rintro e w2 ⟨rfl,b2⟩
 replace R:=hZq (upQ R.out b2)
 replace HB:=hZq (below2Z HB.out b2)
 clear b2
 go_wp2_with fail
 have hRl:=(Array.getElem?_eq_some_iff.1 R.out).1
 refine (take_f t htl HE HG HK _).mono ?_
 rintro e w3 ⟨v,rfl,hov,b3⟩
 replace R:=hZq (upQ R.out b3)
 replace HB:=hZq (below2Z HB.out b3)
 obtain⟨va,vc,rfl,-⟩:=Tab.open' (OwnR.tab hov)
 have V:=hZq (OwnR.mono hov (Nat.succ_le_of_lt hRl))
 clear hov hRl
 clear b3
 go_wp2_with fail
 have b4:=bl_newZ w3 (.cells #[.int .i64 k,.int .i64 q,.bool on,.string ⟨c.toArray⟩,.int .i64 sh,.int .i64 pr,.int .i64 si,.string ⟨st.toArray⟩,.int .u64 sum,.slice va tt.length vc] 29)
 have E:=newQ w3 (.cells #[.int .i64 k,.int .i64 q,.bool on,.string ⟨c.toArray⟩,.int .i64 sh,.int .i64 pr,.int .i64 si,.string ⟨st.toArray⟩,.int .u64 sum,.slice va tt.length vc] 29)
 have hE:w.heap.size≤w3.heap.size:=HB.out.size
 replace R:=hZq (upQ R.out b4)
 replace V:=hZq (OwnR.later V.out b4)
 replace HB:=hZq (below2Z HB.out b4)
 clear b4
 replace E:=hZq E
 generalize w3.alloc (.cells #[.int .i64 k,.int .i64 q,.bool on,.string ⟨c.toArray⟩,.int .i64 sh,.int .i64 pr,.int .i64 si,.string ⟨st.toArray⟩,.int .u64 sum,.slice va tt.length vc] 29)=w5 at R E V HB ⊢
 generalize w3.heap.size=BE at E hE ⊢
 obtain⟨⟨Ec0,Ec1,Ec2,Ec3,Ec4,Ec5,Ec6,Ec7,Ec8,Ec9⟩,⟨Ef0,Ef1,Ef2,Ef3,Ef4,Ef5,Ef6,Ef7,Ef8,Ef9⟩⟩:=blk10 E.out
 go_wp2_with fail
 clear Ec0 Ec1 Ec2 Ec3 Ec4 Ec5 Ec6 Ec7 Ec8 Ec9 Ef0 Ef1 Ef2 Ef3 Ef4 Ef5 Ef6 Ef7 Ef8 Ef9
 refine (frmay_eqF (OwnR.tab V.out) HSH.out hc hst HM).mono ?_
 rintro e w6 ⟨rfl,b6⟩
 replace R:=hZq (upQ R.out b6)
 replace E:=hZq (upQ E.out b6)
 replace V:=hZq (OwnR.later V.out b6)
 replace HB:=hZq (below2Z HB.out b6)
 clear b6
 obtain⟨⟨Ec0,Ec1,Ec2,Ec3,Ec4,Ec5,Ec6,Ec7,Ec8,Ec9⟩,⟨Ef0,Ef1,Ef2,Ef3,Ef4,Ef5,Ef6,Ef7,Ef8,Ef9⟩⟩:=blk10 E.out
 go_wp2_with fail
 clear Ec0 Ec1 Ec2 Ec3 Ec4 Ec5 Ec6 Ec7 Ec8 Ec9 Ef0 Ef1 Ef2 Ef3 Ef4 Ef5 Ef6 Ef7 Ef8 Ef9
 refine (frput_eqF (OwnR.tab V.out) HSH.out hsum HM HP).mono ?_
 rintro e w7 ⟨rfl,b7⟩
 replace R:=hZq (upQ R.out b7)
 replace E:=hZq (upQ E.out b7)
 replace V:=hZq (OwnR.later V.out b7)
 replace HB:=hZq (below2Z HB.out b7)
 clear b7
 obtain⟨⟨Rc0,Rc1,Rc2,Rc3,Rc4,Rc5,Rc6,Rc7,Rc8,Rc9⟩,⟨Rf0,Rf1,Rf2,Rf3,Rf4,Rf5,Rf6,Rf7,Rf8,Rf9⟩⟩:=blk10 R.out
 have t1:=T1.out
 go_wp2_with fail
 refine bodyPost_ret (v:=.tuple #[.agg #[.int .i64 0,.int .i64 0,.bool false,.string ⟨#[]⟩,.int .i64 0,.int .i64 0,.int .i64 0,.string ⟨#[]⟩,.int .u64 0,.slice none 0 0],.int .i64 3]) (by simp [results,Tryz.results57,go_sem,Rc0,Rc1,Rc2,Rc3,Rc4,Rc5,Rc6,Rc7,Rc8,Rc9]) rfl ⟨_,rfl,ownR_nil _ _,?_⟩
 exact ((((((((((HB.out.setCell (Nat.le_refl _) _).setCell (Nat.le_refl _) _).setCell (Nat.le_refl _) _).setCell (Nat.le_refl _) _).setCell (Nat.le_refl _) _).setCell (Nat.le_refl _) _).setCell (Nat.le_refl _) _).setCell (Nat.le_refl _) _).setCell (Nat.le_refl _) _).setCell (Nat.le_refl _) _)

theorem frdec_ok (s:List UInt8) (hl:s.length≤4294967296) {t:List UInt8} (HT:Hid (copen s=(t,0))) (htl:t.length≤4294967296) {og:Option Frm} {k q sh pr si:Int} {on:Bool} {c st:List UInt8} {sum:Nat} {tt:List Row} {k0 q0:Int} (HE:Hid (tkAll t=(og,k,q))) (HG:Hid (og.getD Frm.zero=⟨k0,q0,on,c,⟨sh,pr,si,st⟩,sum,tt⟩)) (HK:Hid (og.isSome=true)) (HSH:Hid (Short tt)) (hc:c.length≤4294967296) (hst:st.length≤4294967296) (hsum:sum < 18446744073709551616) (HM:Hid (frMay ⟨k,q,on,c,⟨sh,pr,si,st⟩,sum,tt⟩=true)) (HP:Hid (frPlain ⟨k,q,on,c,⟨sh,pr,si,st⟩,sum,tt⟩=t)) (w:World) :
  Calls Tryz.prog 57 #[.string ⟨s.toArray⟩] w fun e w' => ∃ v,e=.returned (.tuple #[.agg #[.int .i64 k,.int .i64 q,.bool on,.string ⟨c.toArray⟩,.int .i64 sh,.int .i64 pr,.int .i64 si,.string ⟨st.toArray⟩,.int .u64 sum,v],.int .i64 0])∧OwnR w' w.heap.size v tt∧Below w.heap.size w w':=by
 have b0:=bl_newZ w (.cells #[.int .i64 0,.int .i64 0,.bool false,.string ⟨#[]⟩,.int .i64 0,.int .i64 0,.int .i64 0,.string ⟨#[]⟩,.int .u64 0,.slice none 0 0] 29)
 have HB:=hZq b0
 have R:=newQ w (.cells #[.int .i64 0,.int .i64 0,.bool false,.string ⟨#[]⟩,.int .i64 0,.int .i64 0,.int .i64 0,.string ⟨#[]⟩,.int .u64 0,.slice none 0 0] 29)
 replace R:=hZq R
 clear b0
 go_enter Tryz.func57,Tryz.ntmps57
 go_wp2_with fail
 refine (open_eqF s hl HT _).mono ?_
 rintro e w2 ⟨rfl,b2⟩
 replace R:=hZq (upQ R.out b2)
 replace HB:=hZq (below2Z HB.out b2)
 clear b2
 go_wp2_with fail
 have hRl:=(Array.getElem?_eq_some_iff.1 R.out).1
 refine (take_f t htl HE HG HK _).mono ?_
 rintro e w3 ⟨v,rfl,hov,b3⟩
 replace R:=hZq (upQ R.out b3)
 replace HB:=hZq (below2Z HB.out b3)
 obtain⟨va,vc,rfl,-⟩:=Tab.open' (OwnR.tab hov)
 have V:=hZq (OwnR.mono hov (Nat.succ_le_of_lt hRl))
 clear hov hRl
 clear b3
 go_wp2_with fail
 have b4:=bl_newZ w3 (.cells #[.int .i64 k,.int .i64 q,.bool on,.string ⟨c.toArray⟩,.int .i64 sh,.int .i64 pr,.int .i64 si,.string ⟨st.toArray⟩,.int .u64 sum,.slice va tt.length vc] 29)
 have E:=newQ w3 (.cells #[.int .i64 k,.int .i64 q,.bool on,.string ⟨c.toArray⟩,.int .i64 sh,.int .i64 pr,.int .i64 si,.string ⟨st.toArray⟩,.int .u64 sum,.slice va tt.length vc] 29)
 have hE:w.heap.size≤w3.heap.size:=HB.out.size
 replace R:=hZq (upQ R.out b4)
 replace V:=hZq (OwnR.later V.out b4)
 replace HB:=hZq (below2Z HB.out b4)
 clear b4
 replace E:=hZq E
 generalize w3.alloc (.cells #[.int .i64 k,.int .i64 q,.bool on,.string ⟨c.toArray⟩,.int .i64 sh,.int .i64 pr,.int .i64 si,.string ⟨st.toArray⟩,.int .u64 sum,.slice va tt.length vc] 29)=w5 at R E V HB ⊢
 generalize w3.heap.size=BE at E hE ⊢
 obtain⟨⟨Ec0,Ec1,Ec2,Ec3,Ec4,Ec5,Ec6,Ec7,Ec8,Ec9⟩,⟨Ef0,Ef1,Ef2,Ef3,Ef4,Ef5,Ef6,Ef7,Ef8,Ef9⟩⟩:=blk10 E.out
 go_wp2_with fail
 clear Ec0 Ec1 Ec2 Ec3 Ec4 Ec5 Ec6 Ec7 Ec8 Ec9 Ef0 Ef1 Ef2 Ef3 Ef4 Ef5 Ef6 Ef7 Ef8 Ef9
 refine (frmay_eqF (OwnR.tab V.out) HSH.out hc hst HM).mono ?_
 rintro e w6 ⟨rfl,b6⟩
 replace R:=hZq (upQ R.out b6)
 replace E:=hZq (upQ E.out b6)
 replace V:=hZq (OwnR.later V.out b6)
 replace HB:=hZq (below2Z HB.out b6)
 clear b6
 obtain⟨⟨Ec0,Ec1,Ec2,Ec3,Ec4,Ec5,Ec6,Ec7,Ec8,Ec9⟩,⟨Ef0,Ef1,Ef2,Ef3,Ef4,Ef5,Ef6,Ef7,Ef8,Ef9⟩⟩:=blk10 E.out
 go_wp2_with fail
 clear Ec0 Ec1 Ec2 Ec3 Ec4 Ec5 Ec6 Ec7 Ec8 Ec9 Ef0 Ef1 Ef2 Ef3 Ef4 Ef5 Ef6 Ef7 Ef8 Ef9
 refine (frput_eqF (OwnR.tab V.out) HSH.out hsum HM HP).mono ?_
 rintro e w7 ⟨rfl,b7⟩
 replace R:=hZq (upQ R.out b7)
 replace E:=hZq (upQ E.out b7)
 replace V:=hZq (OwnR.later V.out b7)
 replace HB:=hZq (below2Z HB.out b7)
 clear b7
 obtain⟨⟨Rc0,Rc1,Rc2,Rc3,Rc4,Rc5,Rc6,Rc7,Rc8,Rc9⟩,⟨Rf0,Rf1,Rf2,Rf3,Rf4,Rf5,Rf6,Rf7,Rf8,Rf9⟩⟩:=blk10 R.out
 obtain⟨⟨Ec0,Ec1,Ec2,Ec3,Ec4,Ec5,Ec6,Ec7,Ec8,Ec9⟩,⟨Ef0,Ef1,Ef2,Ef3,Ef4,Ef5,Ef6,Ef7,Ef8,Ef9⟩⟩:=blk10 E.out
 go_wp2_with fail
 refine bodyPost_ret (v:=.tuple #[.agg #[.int .i64 k,.int .i64 q,.bool on,.string ⟨c.toArray⟩,.int .i64 sh,.int .i64 pr,.int .i64 si,.string ⟨st.toArray⟩,.int .u64 sum,.slice va tt.length vc],.int .i64 0]) (by simp [results,Tryz.results57,go_sem,Rc0,Rc1,Rc2,Rc3,Rc4,Rc5,Rc6,Rc7,Rc8,Rc9]) rfl ⟨_,rfl,OwnR.mono ((((((((((V.out.setCell (Nat.lt_succ_self _) _).setCell (Nat.lt_succ_self _) _).setCell (Nat.lt_succ_self _) _).setCell (Nat.lt_succ_self _) _).setCell (Nat.lt_succ_self _) _).setCell (Nat.lt_succ_self _) _).setCell (Nat.lt_succ_self _) _).setCell (Nat.lt_succ_self _) _).setCell (Nat.lt_succ_self _) _).setCell (Nat.lt_succ_self _) _) (Nat.le_succ _),?_⟩
 exact ((((((((((HB.out.setCell (Nat.le_refl _) _).setCell (Nat.le_refl _) _).setCell (Nat.le_refl _) _).setCell (Nat.le_refl _) _).setCell (Nat.le_refl _) _).setCell (Nat.le_refl _) _).setCell (Nat.le_refl _) _).setCell (Nat.le_refl _) _).setCell (Nat.le_refl _) _).setCell (Nat.le_refl _) _)

theorem frdec_any (s:List UInt8) (hl:s.length≤4294967296) {k q sh pr si:Int} {on:Bool} {c st:List UInt8} {sum:Nat} {tt:List Row} {er:Nat} (h:Hid (frDec s=(⟨k,q,on,c,⟨sh,pr,si,st⟩,sum,tt⟩,er))) (w:World) :
  Calls Tryz.prog 57 #[.string ⟨s.toArray⟩] w fun e w' => ∃ v,e=.returned (.tuple #[.agg #[.int .i64 k,.int .i64 q,.bool on,.string ⟨c.toArray⟩,.int .i64 sh,.int .i64 pr,.int .i64 si,.string ⟨st.toArray⟩,.int .u64 sum,v],.int .i64 er])∧OwnR w' w.heap.size v tt∧Below w.heap.size w w':=by
 have e:=h.out
 obtain⟨t,er0,ht⟩ : ∃ t er,copen s=(t,er):=⟨_,_,rfl⟩
 have htl:=copen_lenF ht
 by_cases he:er0=0
 case neg =>
  unfold frDec at e
  rw [ht,if_pos (by simpa using he)] at e
  simp only [Frm.zero,Val.zero,Prod.mk.injEq,Frm.mk.injEq,Val.mk.injEq] at e
  obtain⟨⟨rfl,rfl,rfl,rfl,⟨rfl,rfl,rfl,rfl⟩,rfl,rfl⟩,rfl⟩:=e
  exact frdec_err s hl (hZq ht) he w
 subst he
 obtain⟨og,k1,q1,htk⟩ : ∃ og k q,tkAll t=(og,k,q):=⟨_,_,_,rfl⟩
 have hd:=frDec_tk ht htk
 have hs:=tkAll_short (by omega) htk
 cases og with
 | none =>
  rw [hd.1 rfl] at e
  simp only [Frm.zero,Val.zero,Prod.mk.injEq,Frm.mk.injEq,Val.mk.injEq] at e
  obtain⟨⟨rfl,rfl,rfl,rfl,⟨rfl,rfl,rfl,rfl⟩,rfl,rfl⟩,rfl⟩:=e
  exact frdec_cut s hl (hZq ht) (by omega) (hZq htk) (hZq rfl) (hZq rfl) w
 | some g =>
  rw [hd.2 g rfl] at e
  obtain⟨k0,q0,on0,c0,⟨sh0,pr0,si0,st0⟩,sum0,t0⟩:=g
  simp only at e
  obtain⟨s1,s2,s3,s4⟩:=hs
  simp only [Option.getD_some] at s1 s2 s3 s4
  cases hm:frMay ⟨k1,q1,on0,c0,⟨sh0,pr0,si0,st0⟩,sum0,t0⟩ with
  | false =>
   rw [if_neg (by simp [hm])] at e
   simp only [Frm.zero,Val.zero,Prod.mk.injEq,Frm.mk.injEq,Val.mk.injEq] at e
   obtain⟨⟨rfl,rfl,rfl,rfl,⟨rfl,rfl,rfl,rfl⟩,rfl,rfl⟩,rfl⟩:=e
   exact frdec_no s hl (hZq ht) (by omega) (hZq htk) (hZq rfl) (hZq rfl) (hZq s3) s1 s2 (hZq hm) w
  | true =>
   by_cases hp:frPlain ⟨k1,q1,on0,c0,⟨sh0,pr0,si0,st0⟩,sum0,t0⟩=t
   ·rw [if_pos ⟨hm,hp⟩] at e
    simp only [Prod.mk.injEq,Frm.mk.injEq,Val.mk.injEq] at e
    obtain⟨⟨rfl,rfl,rfl,rfl,⟨rfl,rfl,rfl,rfl⟩,rfl,rfl⟩,rfl⟩:=e
    exact frdec_ok s hl (hZq ht) (by omega) (hZq htk) (hZq rfl) (hZq rfl) (hZq s3) s1 s2 s4 (hZq hm) (hZq hp) w
   ·rw [if_neg (fun h => hp h.2)] at e
    simp only [Frm.zero,Val.zero,Prod.mk.injEq,Frm.mk.injEq,Val.mk.injEq] at e
    obtain⟨⟨rfl,rfl,rfl,rfl,⟨rfl,rfl,rfl,rfl⟩,rfl,rfl⟩,rfl⟩:=e
    exact frdec_dif s hl (hZq ht) (by omega) (hZq htk) (hZq rfl) (hZq rfl) (hZq s3) s1 s2 s4 (hZq hm) (hZq rfl) (hZq (by rw [beq_eq_false_iff_ne]; exact hp)) w

end Go.Proofs.YtekkofldhhdpgaaGreat

end

section

namespace Go.Proofs.YtekkofldhhdpgaaGreat
open Go.RowKit

def frSame (f g:Frm):Bool:=(f.k == g.k) && ((f.s == g.s) && ((f.on == g.on) && ((f.c == g.c) && (vSame f.v g.v && ((f.sum == g.sum) && tSame f.t g.t)))))

theorem frSame_iff {f g:Frm}:frSame f g=true ↔ f=g:=by
 obtain⟨k,s,on,c,v,sum,t⟩:=f
 obtain⟨k2,s2,on2,c2,v2,sum2,t2⟩:=g
 unfold frSame
 simp only [Bool.and_eq_true,beq_iff_eq,vSame_iff,tSame_iff,Frm.mk.injEq]

end Go.Proofs.YtekkofldhhdpgaaGreat

end

section

namespace Go.Proofs.YtekkofldhhdpgaaGreat
open Go.RowKit

theorem sequal_any {w:World} {v u:Value} {t s:List Row} (hv:Tab w v t) (hu:Tab w u s) :
  Calls Tryz.prog 63 #[v,u] w fun e w' => e=.returned (.bool (tSame t s))∧Below w.heap.size w w':=by
 have HV:=hZq hv
 have HU:=hZq hu
 obtain⟨a,cap,rfl,hm⟩:=hv.open'
 obtain⟨a2,cap2,rfl,hm2⟩:=hu.open'
 clear hv hu
 by_cases hl:t.length=s.length
 ·have HL:=hZq hl
  have t1:((t.length:Int) != (s.length:Int))=false:=by simp [hl]
  clear hl
  go_enter Tryz.func63,Tryz.ntmps63
  go_wp2_with fail
  go_loopw [13] (fun i wr => ∃ k:Nat,k≤t.length∧i=.int .i64 k∧Hid (Below w.heap.size w wr)∧Hid ((List.range k).all (fun i => rSame (t.getD i Row.zero) (s.getD i Row.zero))=true)) (fun i _ => t.length - (intOf i).toNat)
  case atStart => exact⟨0,by omega,rfl,Below.refl _ _,by show _=_; simp⟩
  case round =>
   obtain⟨k,hk,rfl,HN,HA⟩:=hrel
   by_cases hlt:k < t.length
   ·obtain⟨b,off,rfl,h0,h1,h2,h3,h4⟩:=HV.out.row HN.out k hlt
    obtain⟨b2,off2,rfl,i0,i1,i2,i3,i4⟩:=HU.out.row HN.out k (by rw [← HL.out]; exact hlt)
    have hlt2:k < s.length:=by rw [← HL.out]; exact hlt
    obtain⟨⟨c,⟨x,y,z,st⟩⟩,hr⟩ : ∃ r,t.getD k Row.zero=r:=⟨_,rfl⟩
    obtain⟨⟨c',⟨x',y',z',st'⟩⟩,hr'⟩ : ∃ r,s.getD k Row.zero=r:=⟨_,rfl⟩
    rw [hr] at h0 h1 h2 h3 h4
    rw [hr'] at i0 i1 i2 i3 i4
    have hgd:Tryz.prog.eqGuardType Tryz.prog.depth 93=false:=by kernel_rfl
    have hne:=row_neq5 c c' x y z x' y' z' st st'
    cases hs:rSame ⟨c,x,y,z,st⟩ ⟨c',x',y',z',st'⟩ with
    | false =>
     have HR:Hid (tSame t s=false):=by show _=_; exact tSame_off hlt (by rw [hr,hr']; exact hs)
     rw [hs] at hne
     simp only at h0 h1 h2 h3 h4 i0 i1 i2 i3 i4
     clear hr hr' hs
     go_wp2_with fail
     go_region
     go_wp2_with fail
     go_ret
     exact⟨by rw [HR.out]; rfl,HN.out.drew⟩
    | true =>
     have HA2:Hid ((List.range (k+1)).all (fun i => rSame (t.getD i Row.zero) (s.getD i Row.zero))=true):=by show _=_; exact tSame_next HA.out (by rw [hr,hr']; exact hs)
     rw [hs] at hne
     simp only at h0 h1 h2 h3 h4 i0 i1 i2 i3 i4
     clear hr hr' hs
     go_wp2_with fail
     go_region
     go_wp2_with fail
     go_roundw
     case rel => exact⟨k+1,by omega,by go_num,HN.out.drew,HA2⟩
     case measure => simp [intOf]; omega
   ·obtain rfl:k=t.length:=by omega
    have HR:Hid (tSame t s=true):=by show _=_; exact tSame_on HL.out HA.out
    go_wp2_with fail
    go_ret
    exact⟨by rw [HR.out]; rfl,HN.out⟩
 ·have HR:=hZq (tSame_len hl)
  have t1:((t.length:Int) != (s.length:Int))=true:=by simp; omega
  clear hl
  go_enter Tryz.func63,Tryz.ntmps63
  go_wp2_with fail
  go_ret
  exact⟨by rw [HR.out]; rfl,Below.refl _ _⟩

theorem cSame_parts (c c2:List UInt8) (on on2:Bool) (a b:Val):cSame ⟨c,on,a⟩ ⟨c2,on2,b⟩=((on == on2) && ((c == c2) && vSame a b)):=by
 unfold cSame
 simp only
 cases (on == on2) <;> cases (c == c2) <;> rfl

end Go.Proofs.YtekkofldhhdpgaaGreat

end
