/-
 TEXTS OF THE PROOF, one behind the other: CliCode, FraShort, CliRead, LinkPure, LinkPureB.
-/
import Derived.Test.YtmpigdokghngiaaGreatQ05
import Derived.Test.YtmpigdokghngiaaGreatQ13
import Derived.Test.YtmpigdokghngiaaGreatQ04
import Derived.Test.YtmpigdokghngiaaGreatQ02
import Derived.Test.YtmpigdokghngiaaGreatQ01

set_option maxHeartbeats 12800000
set_option maxRecDepth 100000

namespace Go.Proofs.YtmpigdokghngiaaGreat
section
open Go.RowKit

theorem clset_short {t:List Row} (h:Short t) {x:Chg} (hc:x.c.length≤4294967296) (hs:x.v.st.length≤4294967296):Short (diSet t x):=fun r hr => by
 rcases set_mem hr with h1 | ⟨_,rfl⟩
 ·exact h r h1
 ·exact⟨hc,hs⟩

theorem set_eqC {w:World} {v:Value} {t:List Row} (hv:Tab w v t) (hl:t.length≤1000) (c st:List UInt8) (on:Bool) (a b d:Int) :
  Calls Tryz.prog 152 #[v,.agg #[.string ⟨c.toArray⟩,.bool on,.int .i64 a,.int .i64 b,.int .i64 d,.string ⟨st.toArray⟩]] w fun e w' => ∃ u,e=.returned u∧OwnR w' w.heap.size u (diSet t ⟨c,on,⟨a,b,d,st⟩⟩)∧Below w.heap.size w w' :=
 set_any hv hl ⟨c,on,⟨a,b,d,st⟩⟩

theorem sum_eqC {w:World} {v:Value} {t:List Row} (hv:Tab w v t) (hs:Short t) {z:Nat} (h:Hid (diSum t=z)) :
  Calls Tryz.prog 150 #[v] w fun e w' => e=.returned (.int .u64 z)∧Below w.heap.size w w':=by
 have:=disum_any hv hs
 rwa [h.out] at this

theorem sequal_eqC {w:World} {v u:Value} {t s:List Row} (hv:Tab w v t) (hu:Tab w u s) {r:Bool} (h:Hid (tSame t s=r)) :
  Calls Tryz.prog 73 #[v,u] w fun e w' => e=.returned (.bool r)∧Below w.heap.size w w':=by
 have:=sequal_any hv hu
 rwa [h.out] at this

def CT (w:World) (base:Nat) (v vc vt:Value) (t tc tt:List Row):Prop:=(v=vc∧t=tc)∨(v=vt∧t=tt)∨OwnR w base v t

theorem clmay_a {w:World} {v:Value} {t:List Row} (hv:Tab w v t) (n:Int) (o:Bool) (h0:n < 0) :
  Calls Tryz.prog 34 #[.agg #[v,.int .i64 n,.bool o]] w fun e w' => e=.returned (.bool false)∧Below w.heap.size w w':=by
 have g1:decide (0≤n)=false:=by rw [decide_eq_false_iff_not]; omega
 clear h0
 obtain⟨ca,cc,rfl,-⟩:=hv.open'
 obtain⟨CB,HB⟩:=ent1 w (.cells #[.slice ca t.length cc,.int .i64 n,.bool o] 33)
 have VA:=hZq (hv.later HB.out)
 clear hv
 go_enter Tryz.func34,Tryz.ntmps34
 have CBo:=blk3 CB.out
 go_wp2_with fail
 clear CBo
 go_ret
 exact⟨rfl,HB.out⟩

theorem clmay_b {w:World} {v:Value} {t:List Row} (hv:Tab w v t) (n:Int) (o:Bool) (h0:0≤n) (h1:1099511627777 < n) :
  Calls Tryz.prog 34 #[.agg #[v,.int .i64 n,.bool o]] w fun e w' => e=.returned (.bool false)∧Below w.heap.size w w':=by
 have g1:decide (0≤n)=true:=by rw [decide_eq_true_eq]; omega
 have g2:decide (n≤1099511627777)=false:=by rw [decide_eq_false_iff_not]; omega
 clear h0 h1
 obtain⟨ca,cc,rfl,-⟩:=hv.open'
 obtain⟨CB,HB⟩:=ent1 w (.cells #[.slice ca t.length cc,.int .i64 n,.bool o] 33)
 have VA:=hZq (hv.later HB.out)
 clear hv
 go_enter Tryz.func34,Tryz.ntmps34
 have CBo:=blk3 CB.out
 go_wp2_with fail
 clear CBo
 go_ret
 exact⟨rfl,HB.out⟩

theorem clmay_c {w:World} {v:Value} {t:List Row} (hv:Tab w v t) (n:Int) (o:Bool) (h0:0≤n) (h1:n≤1099511627777) (hs:Short t) {r:Bool} (HR:Hid (diMay t=r)) :
  Calls Tryz.prog 34 #[.agg #[v,.int .i64 n,.bool o]] w fun e w' => e=.returned (.bool r)∧Below w.heap.size w w':=by
 have g1:decide (0≤n)=true:=by rw [decide_eq_true_eq]; omega
 have g2:decide (n≤1099511627777)=true:=by rw [decide_eq_true_eq]; omega
 clear h0 h1
 obtain⟨ca,cc,rfl,-⟩:=hv.open'
 obtain⟨CB,HB⟩:=ent1 w (.cells #[.slice ca t.length cc,.int .i64 n,.bool o] 33)
 have VA:=hZq (hv.later HB.out)
 clear hv
 go_enter Tryz.func34,Tryz.ntmps34
 have CBo:=blk3 CB.out
 go_wp2_with fail
 clear CBo
 refine (dimay_eq VA.out hs HR).mono ?_
 rintro e w2 ⟨rfl,b2⟩
 replace CB:=hZq (upQ CB.out b2)
 replace VA:=hZq (VA.out.later b2)
 replace HB:=hZq (below2Z HB.out b2)
 clear b2
 go_wp2_with fail
 go_ret
 exact⟨rfl,HB.out⟩

theorem clmay_eq {w:World} {v:Value} {t:List Row} (hv:Tab w v t) (hs:Short t) (n:Int) (o:Bool) {r:Bool} (h:Hid (clMay ⟨t,n,o⟩=r)) :
  Calls Tryz.prog 34 #[.agg #[v,.int .i64 n,.bool o]] w fun e w' => e=.returned (.bool r)∧Below w.heap.size w w':=by
 have h:=h.out
 unfold clMay at h
 simp only at h
 by_cases h0:n < 0
 ·rw [show decide (0≤n)=false by rw [decide_eq_false_iff_not]; omega] at h
  subst h
  exact clmay_a hv n o h0
 ·rw [show decide (0≤n)=true by rw [decide_eq_true_eq]; omega] at h
  by_cases h1:1099511627777 < n
  ·rw [show decide (n≤1099511627777)=false by rw [decide_eq_false_iff_not]; omega] at h
   subst h
   exact clmay_b hv n o (by omega) h1
  ·rw [show decide (n≤1099511627777)=true by rw [decide_eq_true_eq]; omega] at h
   exact clmay_c hv n o (by omega) (by omega) hs (hZq h)

theorem clsame_a {w:World} {v1 v2:Value} {t1 t2:List Row} (hv1:Tab w v1 t1) (hv2:Tab w v2 t2) (n1 n2:Int) (o1 o2:Bool) (h:¬ n1=n2) :
  Calls Tryz.prog 45 #[.agg #[v1,.int .i64 n1,.bool o1],.agg #[v2,.int .i64 n2,.bool o2]] w fun e w' => e=.returned (.bool false)∧Below w.heap.size w w':=by
 have g1:(n1 == n2)=false:=by rw [beq_eq_false_iff_ne]; exact h
 clear h
 obtain⟨va,ca,rfl,-⟩:=hv1.open'
 obtain⟨vb,cb,rfl,-⟩:=hv2.open'
 obtain⟨CA,CB,HB⟩:=ent2 w (.cells #[.slice va t1.length ca,.int .i64 n1,.bool o1] 33) (.cells #[.slice vb t2.length cb,.int .i64 n2,.bool o2] 33)
 have VA:=hZq (hv1.later HB.out)
 have VB:=hZq (hv2.later HB.out)
 clear hv1 hv2
 go_enter Tryz.func45,Tryz.ntmps45
 have CAo:=blk3 CA.out
 have CBo:=blk3 CB.out
 go_wp2_with fail
 clear CAo CBo
 go_ret
 exact⟨rfl,HB.out⟩

theorem clsame_b {w:World} {v1 v2:Value} {t1 t2:List Row} (hv1:Tab w v1 t1) (hv2:Tab w v2 t2) (n1 n2:Int) (o1 o2:Bool) (h:n1=n2) (h2:¬ o1=o2) :
  Calls Tryz.prog 45 #[.agg #[v1,.int .i64 n1,.bool o1],.agg #[v2,.int .i64 n2,.bool o2]] w fun e w' => e=.returned (.bool false)∧Below w.heap.size w w':=by
 have g1:(n1 == n2)=true:=by rw [beq_iff_eq]; exact h
 clear h
 have g2:(o1 == o2)=false:=by rw [beq_eq_false_iff_ne]; exact h2
 clear h2
 obtain⟨va,ca,rfl,-⟩:=hv1.open'
 obtain⟨vb,cb,rfl,-⟩:=hv2.open'
 obtain⟨CA,CB,HB⟩:=ent2 w (.cells #[.slice va t1.length ca,.int .i64 n1,.bool o1] 33) (.cells #[.slice vb t2.length cb,.int .i64 n2,.bool o2] 33)
 have VA:=hZq (hv1.later HB.out)
 have VB:=hZq (hv2.later HB.out)
 clear hv1 hv2
 go_enter Tryz.func45,Tryz.ntmps45
 have CAo:=blk3 CA.out
 have CBo:=blk3 CB.out
 go_wp2_with fail
 clear CAo CBo
 go_ret
 exact⟨rfl,HB.out⟩

theorem clsame_c {w:World} {v1 v2:Value} {t1 t2:List Row} (hv1:Tab w v1 t1) (hv2:Tab w v2 t2) (n1 n2:Int) (o1 o2:Bool) (h:n1=n2) (h2:o1=o2) {r:Bool} (HR:Hid (tSame t1 t2=r)) :
  Calls Tryz.prog 45 #[.agg #[v1,.int .i64 n1,.bool o1],.agg #[v2,.int .i64 n2,.bool o2]] w fun e w' => e=.returned (.bool r)∧Below w.heap.size w w':=by
 have g1:(n1 == n2)=true:=by rw [beq_iff_eq]; exact h
 clear h
 have g2:(o1 == o2)=true:=by rw [beq_iff_eq]; exact h2
 clear h2
 obtain⟨va,ca,rfl,-⟩:=hv1.open'
 obtain⟨vb,cb,rfl,-⟩:=hv2.open'
 obtain⟨CA,CB,HB⟩:=ent2 w (.cells #[.slice va t1.length ca,.int .i64 n1,.bool o1] 33) (.cells #[.slice vb t2.length cb,.int .i64 n2,.bool o2] 33)
 have VA:=hZq (hv1.later HB.out)
 have VB:=hZq (hv2.later HB.out)
 clear hv1 hv2
 go_enter Tryz.func45,Tryz.ntmps45
 have CAo:=blk3 CA.out
 have CBo:=blk3 CB.out
 go_wp2_with fail
 clear CAo CBo
 refine (sequal_eqC VA.out VB.out HR).mono ?_
 rintro e w3 ⟨rfl,b3⟩
 replace CA:=hZq (upQ CA.out b3)
 replace CB:=hZq (upQ CB.out b3)
 replace VA:=hZq (VA.out.later b3)
 replace VB:=hZq (VB.out.later b3)
 replace HB:=hZq (below2Z HB.out b3)
 clear b3
 go_wp2_with fail
 go_ret
 exact⟨rfl,HB.out⟩

theorem clsame_eq {w:World} {v1 v2:Value} {t1 t2:List Row} (hv1:Tab w v1 t1) (hv2:Tab w v2 t2) (n1 n2:Int) (o1 o2:Bool) {r:Bool} (h:Hid (clSame ⟨t1,n1,o1⟩ ⟨t2,n2,o2⟩=r)) :
  Calls Tryz.prog 45 #[.agg #[v1,.int .i64 n1,.bool o1],.agg #[v2,.int .i64 n2,.bool o2]] w fun e w' => e=.returned (.bool r)∧Below w.heap.size w w':=by
 have h:=h.out
 unfold clSame at h
 simp only at h
 by_cases h1:n1=n2
 ·rw [show decide (n1=n2)=true from decide_eq_true h1] at h
  by_cases h2:o1=o2
  ·rw [show (o1 == o2)=true from beq_iff_eq.2 h2] at h
   exact clsame_c hv1 hv2 n1 n2 o1 o2 h1 h2 (hZq h)
  ·rw [show (o1 == o2)=false from beq_eq_false_iff_ne.2 h2] at h
   subst h
   exact clsame_b hv1 hv2 n1 n2 o1 o2 h1 h2
 ·rw [show decide (n1=n2)=false from decide_eq_false h1] at h
  subst h
  exact clsame_a hv1 hv2 n1 n2 o1 o2 h1

theorem clchg_a {w:World} {v vt:Value} {t:List Row} {k s sh pr si:Int} {on:Bool} {c st:List UInt8} {sum:Nat} {tt:List Row} (hv:Tab w v t) (hvt:Tab w vt tt) (n:Int) :
  Calls Tryz.prog 125 #[.agg #[v,.int .i64 n,.bool true],.agg #[.int .i64 k,.int .i64 s,.bool on,.string ⟨c.toArray⟩,.int .i64 sh,.int .i64 pr,.int .i64 si,.string ⟨st.toArray⟩,.int .u64 sum,vt]] w fun e w' => ∃ u,e=.returned (.agg #[u,.int .i64 n,.bool true])∧CT w' w.heap.size u v vt t t tt∧Below w.heap.size w w':=by
 obtain⟨ca,cc,rfl,-⟩:=hv.open'
 obtain⟨ta,tc,rfl,-⟩:=hvt.open'
 obtain⟨CB,FB,RB,HB⟩:=ent3 w (.cells #[.slice ca t.length cc,.int .i64 n,.bool true] 33) (.cells #[.int .i64 k,.int .i64 s,.bool on,.string ⟨c.toArray⟩,.int .i64 sh,.int .i64 pr,.int .i64 si,.string ⟨st.toArray⟩,.int .u64 sum,.slice ta tt.length tc] 56) (.cells #[.slice none 0 0,.int .i64 0,.bool false] 33)
 have CBo:=blk3 CB.out
 have RBo:=blk3 RB.out
 go_enter Tryz.func125,Tryz.ntmps125
 go_wp2_with fail
 refine bodyPost_ret (v:=.agg #[.slice ca t.length cc,.int .i64 n,.bool true]) (by simp [results,Tryz.results125,go_sem]) rfl ⟨_,rfl,.inl ⟨rfl,rfl⟩,(((Below.refl _ _).alloc (Nat.le_refl _) _).alloc (by simp) _).alloc (by simp; omega) _⟩

theorem clchg_b {w:World} {v vt:Value} {t:List Row} {k s sh pr si:Int} {on:Bool} {c st:List UInt8} {sum:Nat} {tt:List Row} (hv:Tab w v t) (hvt:Tab w vt tt) (n:Int) (hl:t.length≤1000) (hsh:Short (diSet t ⟨c,on,⟨sh,pr,si,st⟩⟩)) (HM:Hid (diMay (diSet t ⟨c,on,⟨sh,pr,si,st⟩⟩)=false)) :
  Calls Tryz.prog 125 #[.agg #[v,.int .i64 n,.bool false],.agg #[.int .i64 k,.int .i64 s,.bool on,.string ⟨c.toArray⟩,.int .i64 sh,.int .i64 pr,.int .i64 si,.string ⟨st.toArray⟩,.int .u64 sum,vt]] w fun e w' => ∃ u,e=.returned (.agg #[u,.int .i64 n,.bool true])∧CT w' w.heap.size u v vt t t tt∧Below w.heap.size w w':=by
 obtain⟨ca,cc,rfl,-⟩:=hv.open'
 obtain⟨ta,tc,rfl,-⟩:=hvt.open'
 obtain⟨CB,FB,RB,HB⟩:=ent3 w (.cells #[.slice ca t.length cc,.int .i64 n,.bool false] 33) (.cells #[.int .i64 k,.int .i64 s,.bool on,.string ⟨c.toArray⟩,.int .i64 sh,.int .i64 pr,.int .i64 si,.string ⟨st.toArray⟩,.int .u64 sum,.slice ta tt.length tc] 56) (.cells #[.slice none 0 0,.int .i64 0,.bool false] 33)
 have VA:=hZq (hv.later HB.out)
 clear hvt
 have CBo:=blk3 CB.out
 have FBo:=blk10 FB.out
 go_enter Tryz.func125,Tryz.ntmps125
 go_wp2_with fail
 clear CBo FBo
 refine (set_eqC VA.out hl c st on sh pr si).mono ?_
 rintro e w4 ⟨u4,rfl,hu4,b4⟩
 replace CB:=hZq (upQ CB.out b4)
 replace FB:=hZq (upQ FB.out b4)
 replace RB:=hZq (upQ RB.out b4)
 replace VA:=hZq (VA.out.later b4)
 replace HB:=hZq (below2Z HB.out b4)
 obtain⟨ua,uc,rfl,-⟩:=Tab.open' (OwnR.tab hu4)
 have U:=hZq (OwnR.mono hu4 (show w.heap.size+1+1+1≤_ by simp only [World.size_alloc]; omega))
 clear hu4 VA
 clear b4
 go_wp2_with fail
 refine (dimay_eq (OwnR.tab U.out) hsh HM).mono ?_
 rintro e w5 ⟨rfl,b5⟩
 replace CB:=hZq (upQ CB.out b5)
 replace FB:=hZq (upQ FB.out b5)
 replace RB:=hZq (upQ RB.out b5)
 replace U:=hZq (OwnR.later U.out b5)
 replace HB:=hZq (below2Z HB.out b5)
 clear b5
 have CBo:=blk3 CB.out
 go_upto_region 6 with fail
 clear CBo
 have CBz:=hZq (stS CB.out 2 (.bool true) [.slice ca t.length cc,.int .i64 n,.bool true] rfl)
 have FBz:=hZq (stK FB.out (a:=⟨w.heap.size,2,none⟩) (u:=.bool true) (show ¬ w.heap.size+1=w.heap.size by omega))
 have RBz:=hZq (stK RB.out (a:=⟨w.heap.size,2,none⟩) (u:=.bool true) (show ¬ w.heap.size+1+1=w.heap.size by omega))
 have HBz:=hZq (HB.out.setCell (p:=⟨w.heap.size,2,none⟩) (show w.heap.size≤w.heap.size by omega) (.bool true))
 have Uz:=hZq (OwnR.setCell (a:=⟨w.heap.size,2,none⟩) U.out (show w.heap.size < w.heap.size+1+1+1 by omega) (.bool true))
 clear HB CB FB RB U
 generalize w5.setCell ⟨w.heap.size,2,none⟩ (.bool true)=w6 at CBz FBz RBz Uz HBz ⊢
 have CB:=CBz
 clear CBz
 have FB:=FBz
 clear FBz
 have RB:=RBz
 clear RBz
 have U:=Uz
 clear Uz
 have HB:=HBz
 clear HBz
 have CBo:=blk3 CB.out
 have RBo:=blk3 RB.out
 go_wp2_with fail
 clear CBo RBo
 have hz:=stN3_heap RB.out (.slice ca t.length cc) (.int .i64 n) (.bool true)
 have hle:w.heap.size≤w.heap.size+1+1:=by omega
 obtain⟨⟨z0,z1,z2⟩,-⟩:=blk3 hz
 unfold stN3 at z0 z1 z2
 refine bodyPost_ret (v:=.agg #[.slice ca t.length cc,.int .i64 n,.bool true]) (by simp [results,Tryz.results125,go_sem,z0,z1,z2]) rfl ?_
 exact⟨_,rfl,.inl ⟨rfl,rfl⟩,((HB.out.setCell hle _).setCell hle _).setCell hle _⟩

theorem clchg_c {w:World} {v vt:Value} {t:List Row} {k s sh pr si:Int} {on:Bool} {c st:List UInt8} {sum:Nat} {tt:List Row} (hv:Tab w v t) (hvt:Tab w vt tt) (n:Int) (hl:t.length≤1000) (hsh:Short (diSet t ⟨c,on,⟨sh,pr,si,st⟩⟩)) (HM:Hid (diMay (diSet t ⟨c,on,⟨sh,pr,si,st⟩⟩)=true)) :
  Calls Tryz.prog 125 #[.agg #[v,.int .i64 n,.bool false],.agg #[.int .i64 k,.int .i64 s,.bool on,.string ⟨c.toArray⟩,.int .i64 sh,.int .i64 pr,.int .i64 si,.string ⟨st.toArray⟩,.int .u64 sum,vt]] w fun e w' => ∃ u,e=.returned (.agg #[u,.int .i64 n,.bool false])∧CT w' w.heap.size u v vt (diSet t ⟨c,on,⟨sh,pr,si,st⟩⟩) t tt∧Below w.heap.size w w':=by
 obtain⟨ca,cc,rfl,-⟩:=hv.open'
 obtain⟨ta,tc,rfl,-⟩:=hvt.open'
 obtain⟨CB,FB,RB,HB⟩:=ent3 w (.cells #[.slice ca t.length cc,.int .i64 n,.bool false] 33) (.cells #[.int .i64 k,.int .i64 s,.bool on,.string ⟨c.toArray⟩,.int .i64 sh,.int .i64 pr,.int .i64 si,.string ⟨st.toArray⟩,.int .u64 sum,.slice ta tt.length tc] 56) (.cells #[.slice none 0 0,.int .i64 0,.bool false] 33)
 have VA:=hZq (hv.later HB.out)
 clear hvt
 have CBo:=blk3 CB.out
 have FBo:=blk10 FB.out
 go_enter Tryz.func125,Tryz.ntmps125
 go_wp2_with fail
 clear CBo FBo
 refine (set_eqC VA.out hl c st on sh pr si).mono ?_
 rintro e w4 ⟨u4,rfl,hu4,b4⟩
 replace CB:=hZq (upQ CB.out b4)
 replace FB:=hZq (upQ FB.out b4)
 replace RB:=hZq (upQ RB.out b4)
 replace VA:=hZq (VA.out.later b4)
 replace HB:=hZq (below2Z HB.out b4)
 obtain⟨ua,uc,rfl,-⟩:=Tab.open' (OwnR.tab hu4)
 have U:=hZq (OwnR.mono hu4 (show w.heap.size+1+1+1≤_ by simp only [World.size_alloc]; omega))
 clear hu4 VA
 clear b4
 go_wp2_with fail
 refine (dimay_eq (OwnR.tab U.out) hsh HM).mono ?_
 rintro e w5 ⟨rfl,b5⟩
 replace CB:=hZq (upQ CB.out b5)
 replace FB:=hZq (upQ FB.out b5)
 replace RB:=hZq (upQ RB.out b5)
 replace U:=hZq (OwnR.later U.out b5)
 replace HB:=hZq (below2Z HB.out b5)
 clear b5
 have CBo:=blk3 CB.out
 go_upto_region 8 with fail
 clear CBo
 have CBz:=hZq (stS CB.out 0 (.slice ua (diSet t ⟨c,on,⟨sh,pr,si,st⟩⟩).length uc) [.slice ua (diSet t ⟨c,on,⟨sh,pr,si,st⟩⟩).length uc,.int .i64 n,.bool false] rfl)
 have FBz:=hZq (stK FB.out (a:=⟨w.heap.size,0,none⟩) (u:=.slice ua (diSet t ⟨c,on,⟨sh,pr,si,st⟩⟩).length uc) (show ¬ w.heap.size+1=w.heap.size by omega))
 have RBz:=hZq (stK RB.out (a:=⟨w.heap.size,0,none⟩) (u:=.slice ua (diSet t ⟨c,on,⟨sh,pr,si,st⟩⟩).length uc) (show ¬ w.heap.size+1+1=w.heap.size by omega))
 have HBz:=hZq (HB.out.setCell (p:=⟨w.heap.size,0,none⟩) (show w.heap.size≤w.heap.size by omega) (.slice ua (diSet t ⟨c,on,⟨sh,pr,si,st⟩⟩).length uc))
 have Uz:=hZq (OwnR.setCell (a:=⟨w.heap.size,0,none⟩) U.out (show w.heap.size < w.heap.size+1+1+1 by omega) (.slice ua (diSet t ⟨c,on,⟨sh,pr,si,st⟩⟩).length uc))
 clear HB CB FB RB U
 generalize w5.setCell ⟨w.heap.size,0,none⟩ (.slice ua (diSet t ⟨c,on,⟨sh,pr,si,st⟩⟩).length uc)=w6 at CBz FBz RBz Uz HBz ⊢
 have CB:=CBz
 clear CBz
 have FB:=FBz
 clear FBz
 have RB:=RBz
 clear RBz
 have U:=Uz
 clear Uz
 have HB:=HBz
 clear HBz
 have CBo:=blk3 CB.out
 have RBo:=blk3 RB.out
 go_wp2_with fail
 clear CBo RBo
 have hz:=stN3_heap RB.out (.slice ua (diSet t ⟨c,on,⟨sh,pr,si,st⟩⟩).length uc) (.int .i64 n) (.bool false)
 have hle:w.heap.size≤w.heap.size+1+1:=by omega
 obtain⟨⟨z0,z1,z2⟩,-⟩:=blk3 hz
 unfold stN3 at z0 z1 z2
 refine bodyPost_ret (v:=.agg #[.slice ua (diSet t ⟨c,on,⟨sh,pr,si,st⟩⟩).length uc,.int .i64 n,.bool false]) (by simp [results,Tryz.results125,go_sem,z0,z1,z2]) rfl ?_
 have hlt:w.heap.size+1+1 < w.heap.size+1+1+1:=Nat.lt_succ_self _
 exact⟨_,rfl,.inr (.inr (OwnR.mono (((U.out.setCell hlt _).setCell hlt _).setCell hlt _) (by omega))),((HB.out.setCell hle _).setCell hle _).setCell hle _⟩

theorem clrep_any {w:World} {v vt:Value} {t:List Row} {k s sh pr si:Int} {on:Bool} {c st:List UInt8} {sum:Nat} {tt:List Row} (hv:Tab w v t) (hvt:Tab w vt tt) (n:Int) (o:Bool) (hl:tt.length≤1000) :
  Calls Tryz.prog 127 #[.agg #[v,.int .i64 n,.bool o],.agg #[.int .i64 k,.int .i64 s,.bool on,.string ⟨c.toArray⟩,.int .i64 sh,.int .i64 pr,.int .i64 si,.string ⟨st.toArray⟩,.int .u64 sum,vt]] w fun e w' => ∃ u,e=.returned (.agg #[u,.int .i64 n,.bool false])∧CT w' w.heap.size u v vt tt t tt∧Below w.heap.size w w':=by
 obtain⟨ca,cc,rfl,-⟩:=hv.open'
 obtain⟨ta,tc,rfl,-⟩:=hvt.open'
 obtain⟨CB,FB,RB,HB⟩:=ent3 w (.cells #[.slice ca t.length cc,.int .i64 n,.bool o] 33) (.cells #[.int .i64 k,.int .i64 s,.bool on,.string ⟨c.toArray⟩,.int .i64 sh,.int .i64 pr,.int .i64 si,.string ⟨st.toArray⟩,.int .u64 sum,.slice ta tt.length tc] 56) (.cells #[.slice none 0 0,.int .i64 0,.bool false] 33)
 have VT:=hZq (hvt.later HB.out)
 clear hv
 have FBo:=blk10 FB.out
 go_enter Tryz.func127,Tryz.ntmps127
 go_wp2_with fail
 clear FBo
 refine (clone_any VT.out (by omega)).mono ?_
 rintro e w4 ⟨u4,rfl,hu4,b4⟩
 replace CB:=hZq (upQ CB.out b4)
 replace FB:=hZq (upQ FB.out b4)
 replace RB:=hZq (upQ RB.out b4)
 replace VT:=hZq (VT.out.later b4)
 replace HB:=hZq (below2Z HB.out b4)
 obtain⟨ua,uc,rfl,-⟩:=Tab.open' (OwnR.tab hu4)
 have U:=hZq (OwnR.mono hu4 (show w.heap.size+1+1+1≤_ by simp only [World.size_alloc]; omega))
 clear hu4 VT
 clear b4
 have CBo:=blk3 CB.out
 go_upto_region 2 with fail
 clear CBo
 have CBz:=hZq (stS CB.out 0 (.slice ua tt.length uc) [.slice ua tt.length uc,.int .i64 n,.bool o] rfl)
 have FBz:=hZq (stK FB.out (a:=⟨w.heap.size,0,none⟩) (u:=.slice ua tt.length uc) (show ¬ w.heap.size+1=w.heap.size by omega))
 have RBz:=hZq (stK RB.out (a:=⟨w.heap.size,0,none⟩) (u:=.slice ua tt.length uc) (show ¬ w.heap.size+1+1=w.heap.size by omega))
 have HBz:=hZq (HB.out.setCell (p:=⟨w.heap.size,0,none⟩) (show w.heap.size≤w.heap.size by omega) (.slice ua tt.length uc))
 have Uz:=hZq (OwnR.setCell (a:=⟨w.heap.size,0,none⟩) U.out (show w.heap.size < w.heap.size+1+1+1 by omega) (.slice ua tt.length uc))
 clear HB CB FB RB U
 generalize w4.setCell ⟨w.heap.size,0,none⟩ (.slice ua tt.length uc)=w5 at CBz FBz RBz Uz HBz ⊢
 have CB:=CBz
 clear CBz
 have FB:=FBz
 clear FBz
 have RB:=RBz
 clear RBz
 have U:=Uz
 clear Uz
 have HB:=HBz
 clear HBz
 have CBz:=hZq (stS CB.out 2 (.bool false) [.slice ua tt.length uc,.int .i64 n,.bool false] rfl)
 have FBz:=hZq (stK FB.out (a:=⟨w.heap.size,2,none⟩) (u:=.bool false) (show ¬ w.heap.size+1=w.heap.size by omega))
 have RBz:=hZq (stK RB.out (a:=⟨w.heap.size,2,none⟩) (u:=.bool false) (show ¬ w.heap.size+1+1=w.heap.size by omega))
 have HBz:=hZq (HB.out.setCell (p:=⟨w.heap.size,2,none⟩) (show w.heap.size≤w.heap.size by omega) (.bool false))
 have Uz:=hZq (OwnR.setCell (a:=⟨w.heap.size,2,none⟩) U.out (show w.heap.size < w.heap.size+1+1+1 by omega) (.bool false))
 clear HB CB FB RB U
 generalize w5.setCell ⟨w.heap.size,2,none⟩ (.bool false)=w6 at CBz FBz RBz Uz HBz ⊢
 have CB:=CBz
 clear CBz
 have FB:=FBz
 clear FBz
 have RB:=RBz
 clear RBz
 have U:=Uz
 clear Uz
 have HB:=HBz
 clear HBz
 have CBo:=blk3 CB.out
 have RBo:=blk3 RB.out
 go_wp2_with fail
 clear CBo RBo
 have hz:=stN3_heap RB.out (.slice ua tt.length uc) (.int .i64 n) (.bool false)
 have hle:w.heap.size≤w.heap.size+1+1:=by omega
 obtain⟨⟨z0,z1,z2⟩,-⟩:=blk3 hz
 unfold stN3 at z0 z1 z2
 refine bodyPost_ret (v:=.agg #[.slice ua tt.length uc,.int .i64 n,.bool false]) (by simp [results,Tryz.results127,go_sem,z0,z1,z2]) rfl ?_
 have hlt:w.heap.size+1+1 < w.heap.size+1+1+1:=Nat.lt_succ_self _
 exact⟨_,rfl,.inr (.inr (OwnR.mono (((U.out.setCell hlt _).setCell hlt _).setCell hlt _) (by omega))),((HB.out.setCell hle _).setCell hle _).setCell hle _⟩

theorem clchk_a {w:World} {v vt:Value} {t:List Row} {k s sh pr si:Int} {on:Bool} {c st:List UInt8} {sum:Nat} {tt:List Row} (hv:Tab w v t) (hvt:Tab w vt tt) (n:Int) :
  Calls Tryz.prog 126 #[.agg #[v,.int .i64 n,.bool true],.agg #[.int .i64 k,.int .i64 s,.bool on,.string ⟨c.toArray⟩,.int .i64 sh,.int .i64 pr,.int .i64 si,.string ⟨st.toArray⟩,.int .u64 sum,vt]] w fun e w' => ∃ u,e=.returned (.agg #[u,.int .i64 n,.bool true])∧CT w' w.heap.size u v vt t t tt∧Below w.heap.size w w':=by
 obtain⟨ca,cc,rfl,-⟩:=hv.open'
 obtain⟨ta,tc,rfl,-⟩:=hvt.open'
 obtain⟨CB,FB,RB,HB⟩:=ent3 w (.cells #[.slice ca t.length cc,.int .i64 n,.bool true] 33) (.cells #[.int .i64 k,.int .i64 s,.bool on,.string ⟨c.toArray⟩,.int .i64 sh,.int .i64 pr,.int .i64 si,.string ⟨st.toArray⟩,.int .u64 sum,.slice ta tt.length tc] 56) (.cells #[.slice none 0 0,.int .i64 0,.bool false] 33)
 clear hv hvt
 go_enter Tryz.func126,Tryz.ntmps126
 go_upto_region 1 with fail
 generalize ((w.alloc (.cells #[.slice ca t.length cc,.int .i64 n,.bool true] 33)).alloc (.cells #[.int .i64 k,.int .i64 s,.bool on,.string ⟨c.toArray⟩,.int .i64 sh,.int .i64 pr,.int .i64 si,.string ⟨st.toArray⟩,.int .u64 sum,.slice ta tt.length tc] 56)).alloc (.cells #[.slice none 0 0,.int .i64 0,.bool false] 33)=w4 at CB FB RB HB ⊢
 have CBo:=blk3 CB.out
 have FBo:=blk10 FB.out
 go_region
 clear CBo FBo
 have CBz:=hZq (stS CB.out 2 (.bool true) [.slice ca t.length cc,.int .i64 n,.bool true] rfl)
 have FBz:=hZq (stK FB.out (a:=⟨w.heap.size,2,none⟩) (u:=.bool true) (show ¬ w.heap.size+1=w.heap.size by omega))
 have RBz:=hZq (stK RB.out (a:=⟨w.heap.size,2,none⟩) (u:=.bool true) (show ¬ w.heap.size+1+1=w.heap.size by omega))
 have HBz:=hZq (HB.out.setCell (p:=⟨w.heap.size,2,none⟩) (show w.heap.size≤w.heap.size by omega) (.bool true))
 clear HB CB FB RB
 generalize w4.setCell ⟨w.heap.size,2,none⟩ (.bool true)=w5 at CBz FBz RBz HBz ⊢
 have CB:=CBz
 clear CBz
 have FB:=FBz
 clear FBz
 have RB:=RBz
 clear RBz
 have HB:=HBz
 clear HBz
 have CBo:=blk3 CB.out
 have RBo:=blk3 RB.out
 go_wp2_with fail
 clear CBo RBo
 have hz:=stN3_heap RB.out (.slice ca t.length cc) (.int .i64 n) (.bool true)
 have hle:w.heap.size≤w.heap.size+1+1:=by omega
 obtain⟨⟨z0,z1,z2⟩,-⟩:=blk3 hz
 unfold stN3 at z0 z1 z2
 refine bodyPost_ret (v:=.agg #[.slice ca t.length cc,.int .i64 n,.bool true]) (by simp [results,Tryz.results126,go_sem,z0,z1,z2]) rfl ?_
 exact⟨_,rfl,.inl ⟨rfl,rfl⟩,(((HB.out.setCell hle _).setCell hle _).setCell hle _).drew⟩

theorem clchk_b {w:World} {v vt:Value} {t:List Row} {k s sh pr si:Int} {on:Bool} {c st:List UInt8} {sum:Nat} {tt:List Row} (hv:Tab w v t) (hvt:Tab w vt tt) (n:Int) (hs:Short t) {z:Nat} (HZ:Hid (diSum t=z)) {r:Bool} (g:((z:Int) != (sum:Int))=r) :
  Calls Tryz.prog 126 #[.agg #[v,.int .i64 n,.bool false],.agg #[.int .i64 k,.int .i64 s,.bool on,.string ⟨c.toArray⟩,.int .i64 sh,.int .i64 pr,.int .i64 si,.string ⟨st.toArray⟩,.int .u64 sum,vt]] w fun e w' => ∃ u,e=.returned (.agg #[u,.int .i64 n,.bool r])∧CT w' w.heap.size u v vt t t tt∧Below w.heap.size w w':=by
 obtain⟨ca,cc,rfl,-⟩:=hv.open'
 obtain⟨ta,tc,rfl,-⟩:=hvt.open'
 obtain⟨CB,FB,RB,HB⟩:=ent3 w (.cells #[.slice ca t.length cc,.int .i64 n,.bool false] 33) (.cells #[.int .i64 k,.int .i64 s,.bool on,.string ⟨c.toArray⟩,.int .i64 sh,.int .i64 pr,.int .i64 si,.string ⟨st.toArray⟩,.int .u64 sum,.slice ta tt.length tc] 56) (.cells #[.slice none 0 0,.int .i64 0,.bool false] 33)
 have VA:=hZq (hv.later HB.out)
 clear hv hvt
 go_enter Tryz.func126,Tryz.ntmps126
 go_upto_region 1 with fail
 generalize ((w.alloc (.cells #[.slice ca t.length cc,.int .i64 n,.bool false] 33)).alloc (.cells #[.int .i64 k,.int .i64 s,.bool on,.string ⟨c.toArray⟩,.int .i64 sh,.int .i64 pr,.int .i64 si,.string ⟨st.toArray⟩,.int .u64 sum,.slice ta tt.length tc] 56)).alloc (.cells #[.slice none 0 0,.int .i64 0,.bool false] 33)=w4 at CB FB RB VA HB ⊢
 obtain⟨BS,hBS⟩ : ∃ BS:List (Nat × List Value),BS=[(w.heap.size+1,[.int .i64 k,.int .i64 s,.bool on,.string ⟨c.toArray⟩,.int .i64 sh,.int .i64 pr,.int .i64 si,.string ⟨st.toArray⟩,.int .u64 sum,.slice ta tt.length tc]),(w.heap.size+1+1,[.slice none 0 0,.int .i64 0,.bool false])]:=⟨_,rfl⟩
 have D0:=hZq (show heldB w4 BS from by rw [hBS]; exact heldB_cons (cellsAt_block FB.out) (heldB_cons (cellsAt_block RB.out) (heldB_nil _)))
 have hL:=heldB_at (b:=w.heap.size+1) (vs:=[.int .i64 k,.int .i64 s,.bool on,.string ⟨c.toArray⟩,.int .i64 sh,.int .i64 pr,.int .i64 si,.string ⟨st.toArray⟩,.int .u64 sum,.slice ta tt.length tc]) (bs:=BS) (by rw [hBS]; simp)
 have hq0:=hL 0 _ rfl
 have hq1:=hL 1 _ rfl
 have hq2:=hL 2 _ rfl
 have hq3:=hL 3 _ rfl
 have hq4:=hL 4 _ rfl
 have hq5:=hL 5 _ rfl
 have hq6:=hL 6 _ rfl
 have hq7:=hL 7 _ rfl
 have hq8:=hL 8 _ rfl
 have hq9:=hL 9 _ rfl
 clear hL
 have hL:=heldB_at (b:=w.heap.size+1+1) (vs:=[.slice none 0 0,.int .i64 0,.bool false]) (bs:=BS) (by rw [hBS]; simp)
 have hq10:=hL 0 _ rfl
 have hq11:=hL 1 _ rfl
 have hq12:=hL 2 _ rfl
 clear hL
 have hBN:Hid (∀ p ∈ BS,¬ p.1=w.heap.size):=hZq (by rw [hBS]; intro p hp; simp only [List.mem_cons,List.not_mem_nil,or_false] at hp; rcases hp with rfl | rfl <;> simp only <;> omega)
 clear hBS
 have K0:Hid (Below w4.heap.size w4 w4.drew):=hZq (Below.refl _ _).drew
 refine wp_region_held_drew (S:=(fun X => heldB X BS)) (by kernel_rfl) ?_ (fun hHeld => ?_)
 ·exact heldB_up K0.out D0.out
 generalize w4.drew=z0 at K0 hHeld ⊢
 refine tkZ 0 ?_
 obtain⟨⟨q0,q1,q2⟩,-⟩:=blk3 (upQ CB.out (K0.out))
 refine wpAnyH_ready (rs:=[1]) (by as_aux_lemma => kernel_rfl) (by simp) ?_
 refine AllReadyH.cons rfl (fun Kx hK => ?_) AllReadyH.nil
 go_simp
 refine hK.out _ _ ?_ (fun hHeld2 => ?_)
 ·exact heldB_up (K0.out) D0.out
 clear hK Kx hHeld q0 q1 q2
 have hHeld:=hHeld2
 clear hHeld2
 try simp only [Act.put,List.setIfInBounds_toArray,List.set_cons_zero,List.set_cons_succ]
 refine tkZ 2 ?_
 refine tkZ 3 ?_
 refine tkZ 6 ?_
 refine tkZ 7 ?_
 obtain⟨⟨q0,q1,q2⟩,-⟩:=blk3 (upQ CB.out (K0.out))
 refine wpAnyH_ready (rs:=[4]) (by as_aux_lemma => kernel_rfl) (by simp) ?_
 refine AllReadyH.cons rfl (fun Kx hK => ?_) AllReadyH.nil
 go_simp
 refine hK.out _ _ ?_ (fun hHeld2 => ?_)
 ·exact heldB_up (K0.out) D0.out
 clear hK Kx hHeld q0 q1 q2
 have hHeld:=hHeld2
 clear hHeld2
 try simp only [Act.put,List.setIfInBounds_toArray,List.set_cons_zero,List.set_cons_succ]
 refine wpAnyH_ready (rs:=[5]) (by as_aux_lemma => kernel_rfl) (by simp) ?_
 refine AllReadyH.cons rfl (fun Kx hK => ?_) AllReadyH.nil
 go_simp
 refine (sum_eqC (VA.out.later (K0.out)) hs HZ).mono ?_
 rintro e z1003 ⟨rfl,bz1003⟩
 have K1003:=hZq (below2Z K0.out bz1003)
 have D1003:=hZq (heldB_up K1003.out D0.out)
 clear bz1003
 go_wp2_with fail
 refine hK.out _ _ ?_ (fun hHeld2 => ?_)
 ·exact D1003.out
 clear hK Kx hHeld
 have hHeld:=hHeld2
 clear hHeld2
 try simp only [Act.put,List.setIfInBounds_toArray,List.set_cons_zero,List.set_cons_succ]
 refine tkZ 8 ?_
 refine tkZ 9 ?_
 refine tkZ 10 ?_
 obtain⟨⟨q0,q1,q2⟩,⟨g0,g1,g2⟩⟩:=blk3 (upQ CB.out (K1003.out))
 refine wpAnyH_ready (rs:=[11]) (by as_aux_lemma => kernel_rfl) (by simp) ?_
 refine AllReadyH.cons rfl (fun Kx hK => ?_) AllReadyH.nil
 go_simp
 clear q0 q1 q2 g0 g1 g2
 have CBz:Hid ((z1003.setCell ⟨w.heap.size,2,none⟩ (.bool r)).heap[w.heap.size]?=some (.cells #[.slice ca t.length cc,.int .i64 n,.bool r] 33 (0,0))):=hZq (heap_setCell_same z1003 w.heap.size 2 _ _ (.bool r) (upQ CB.out (K1003.out)))
 have FBz:Hid ((z1003.setCell ⟨w.heap.size,2,none⟩ (.bool r)).heap[w.heap.size+1]?=some (.cells #[.int .i64 k,.int .i64 s,.bool on,.string ⟨c.toArray⟩,.int .i64 sh,.int .i64 pr,.int .i64 si,.string ⟨st.toArray⟩,.int .u64 sum,.slice ta tt.length tc] 56 (0,0))):=hZq ((Below.heap_setCell _ _ _ (w.heap.size+1) (show ¬ w.heap.size+1=w.heap.size by omega)).trans (upQ FB.out (K1003.out)))
 have RBz:Hid ((z1003.setCell ⟨w.heap.size,2,none⟩ (.bool r)).heap[w.heap.size+1+1]?=some (.cells #[.slice none 0 0,.int .i64 0,.bool false] 33 (0,0))):=hZq ((Below.heap_setCell _ _ _ (w.heap.size+1+1) (show ¬ w.heap.size+1+1=w.heap.size by omega)).trans (upQ RB.out (K1003.out)))
 have HBz:Hid (Below w.heap.size w (z1003.setCell ⟨w.heap.size,2,none⟩ (.bool r))):=hZq ((below2Z HB.out (K1003.out)).setCell (show w.heap.size≤w.heap.size by omega) _)
 have HLD:Hid (heldB (z1003.setCell ⟨w.heap.size,2,none⟩ (.bool r)) BS):=hZq (heldB_farF (heldB_up (K1003.out) D0.out) (fun k hk => Below.heap_setCell _ _ _ k hk) hBN.out)
 refine hK.out _ _ ?_ (fun hHeld2 => ?_)
 ·exact HLD.out
 clear hK Kx hHeld HLD
 have hHeld:=hHeld2
 clear hHeld2
 generalize z1003.setCell ⟨w.heap.size,2,none⟩ (.bool r)=zs at CBz FBz RBz HBz hHeld ⊢
 refine wpAnyH_done (by kernel_rfl) ?_ _
 clear CB FB RB HB
 have CB:=CBz
 have RB:=RBz
 have HB:=HBz
 clear CBz RBz HBz
 have CBo:=blk3 CB.out
 have RBo:=blk3 RB.out
 go_wp2_with fail
 clear CBo RBo
 have hz:=stN3_heap RB.out (.slice ca t.length cc) (.int .i64 n) (.bool r)
 have hle:w.heap.size≤w.heap.size+1+1:=by omega
 obtain⟨⟨z0,z1,z2⟩,-⟩:=blk3 hz
 unfold stN3 at z0 z1 z2
 refine bodyPost_ret (v:=.agg #[.slice ca t.length cc,.int .i64 n,.bool r]) (by simp [results,Tryz.results126,go_sem,z0,z1,z2]) rfl ?_
 exact⟨_,rfl,.inl ⟨rfl,rfl⟩,((HB.out.setCell hle _).setCell hle _).setCell hle _⟩

theorem CT.mono {w:World} {b b2:Nat} {v vc vt:Value} {t tc tt:List Row} (h:CT w b v vc vt t tc tt) (hb:b2≤b):CT w b2 v vc vt t tc tt:=h.imp id fun h => h.imp id fun h => OwnR.mono h hb

theorem CT.shape {w:World} {b:Nat} {v:Value} {a1 a2:Option Addr} {n1 n2 c1 c2:Nat} {t tc tt:List Row} (h:CT w b v (.slice a1 n1 c1) (.slice a2 n2 c2) t tc tt):∃ a n c,v=.slice a n c:=by
 rcases h with ⟨rfl,rfl⟩ | ⟨rfl,rfl⟩ | h
 ·exact⟨_,_,_,rfl⟩
 ·exact⟨_,_,_,rfl⟩
 ·obtain⟨a,c,rfl,_⟩:=Tab.open' (OwnR.tab h)
  exact⟨_,_,_,rfl⟩

theorem CT.later {w w':World} {b:Nat} {v vc vt:Value} {t tc tt:List Row} (h:CT w b v vc vt t tc tt) (hb:Below w.heap.size w w'):CT w' b v vc vt t tc tt:=h.imp id fun h => h.imp id fun h => OwnR.later h hb

theorem CT.set {w:World} {b:Nat} {v vc vt:Value} {t tc tt:List Row} (h:CT w b v vc vt t tc tt) {a:Addr} (ha:a.block < b) (u:Value):CT (w.setCell a u) b v vc vt t tc tt:=h.imp id fun h => h.imp id fun h => OwnR.setCell h ha u

theorem CT.tab {w:World} {b:Nat} {v vc vt:Value} {t tc tt:List Row} (h:CT w b v vc vt t tc tt) (h1:Tab w vc tc) (h2:Tab w vt tt):Tab w v t:=by
 rcases h with ⟨rfl,rfl⟩ | ⟨rfl,rfl⟩ | h
 ·exact h1
 ·exact h2
 ·exact OwnR.tab h

theorem clfeed_no {w:World} {v vt:Value} {t:List Row} {k s sh pr si:Int} {on:Bool} {c st:List UInt8} {sum:Nat} {tt:List Row} (hv:Tab w v t) (hvt:Tab w vt tt) (n:Int) (o:Bool) (_hk:(Lit.int .i64 k).wf=true) (HL:Hid (∀ {z:World} {B:Nat},FnMap z B kindFnsC→(Instr.lookup 130 (.map (some B)) (.int .i64 k) true).run Tryz.prog z=.ok (.tuple #[.nilFunc,.bool false]) z)) :
  Calls Tryz.prog 68 #[.agg #[v,.int .i64 n,.bool o],.agg #[.int .i64 k,.int .i64 s,.bool on,.string ⟨c.toArray⟩,.int .i64 sh,.int .i64 pr,.int .i64 si,.string ⟨st.toArray⟩,.int .u64 sum,vt]] w fun e w' => ∃ u,e=.returned (.agg #[u,.int .i64 n,.bool o])∧CT w' w.heap.size u v vt t t tt∧Below w.heap.size w w':=by
 obtain⟨ca,cc,rfl,-⟩:=hv.open'
 obtain⟨ta,tc,rfl,-⟩:=hvt.open'
 have VA:=hZq (fun X (hX:Below w.heap.size w X) => hv.later hX)
 have VT:=hZq (fun X (hX:Below w.heap.size w X) => hvt.later hX)
 obtain⟨CB,FB,RB,HB⟩:=ent3 w (.cells #[.slice ca t.length cc,.int .i64 n,.bool o] 33) (.cells #[.int .i64 k,.int .i64 s,.bool on,.string ⟨c.toArray⟩,.int .i64 sh,.int .i64 pr,.int .i64 si,.string ⟨st.toArray⟩,.int .u64 sum,.slice ta tt.length tc] 56) (.cells #[.slice none 0 0,.int .i64 0,.bool false] 33)
 clear hv hvt
 go_enter Tryz.func68,Tryz.ntmps68
 go_upto_region 1 with fail
 generalize ((w.alloc (.cells #[.slice ca t.length cc,.int .i64 n,.bool o] 33)).alloc (.cells #[.int .i64 k,.int .i64 s,.bool on,.string ⟨c.toArray⟩,.int .i64 sh,.int .i64 pr,.int .i64 si,.string ⟨st.toArray⟩,.int .u64 sum,.slice ta tt.length tc] 56)).alloc (.cells #[.slice none 0 0,.int .i64 0,.bool false] 33)=w4 at CB FB RB HB ⊢
 obtain⟨BS,hBS⟩ : ∃ BS:List (Nat × List Value),BS=[(w.heap.size,[.slice ca t.length cc,.int .i64 n,.bool o]),(w.heap.size+1,[.int .i64 k,.int .i64 s,.bool on,.string ⟨c.toArray⟩,.int .i64 sh,.int .i64 pr,.int .i64 si,.string ⟨st.toArray⟩,.int .u64 sum,.slice ta tt.length tc]),(w.heap.size+1+1,[.slice none 0 0,.int .i64 0,.bool false])]:=⟨_,rfl⟩
 have D0:=hZq (show heldB w4 BS from by rw [hBS]; exact heldB_cons (cellsAt_block CB.out) (heldB_cons (cellsAt_block FB.out) (heldB_cons (cellsAt_block RB.out) (heldB_nil _))))
 have hL:=heldB_at (b:=w.heap.size) (vs:=[.slice ca t.length cc,.int .i64 n,.bool o]) (bs:=BS) (by rw [hBS]; simp)
 have hq0:=hL 0 _ rfl
 have hq1:=hL 1 _ rfl
 have hq2:=hL 2 _ rfl
 clear hL
 have hL:=heldB_at (b:=w.heap.size+1) (vs:=[.int .i64 k,.int .i64 s,.bool on,.string ⟨c.toArray⟩,.int .i64 sh,.int .i64 pr,.int .i64 si,.string ⟨st.toArray⟩,.int .u64 sum,.slice ta tt.length tc]) (bs:=BS) (by rw [hBS]; simp)
 have hq3:=hL 0 _ rfl
 have hq4:=hL 1 _ rfl
 have hq5:=hL 2 _ rfl
 have hq6:=hL 3 _ rfl
 have hq7:=hL 4 _ rfl
 have hq8:=hL 5 _ rfl
 have hq9:=hL 6 _ rfl
 have hq10:=hL 7 _ rfl
 have hq11:=hL 8 _ rfl
 have hq12:=hL 9 _ rfl
 clear hL
 have hL:=heldB_at (b:=w.heap.size+1+1) (vs:=[.slice none 0 0,.int .i64 0,.bool false]) (bs:=BS) (by rw [hBS]; simp)
 have hq13:=hL 0 _ rfl
 have hq14:=hL 1 _ rfl
 have hq15:=hL 2 _ rfl
 clear hL
 clear hBS
 have K0:Hid (Below w4.heap.size w4 w4.drew):=hZq (Below.refl _ _).drew
 refine wp_region_held_drew (S:=(fun X => heldB X BS)) (by kernel_rfl) ?_ (fun hHeld => ?_)
 ·exact heldB_up K0.out D0.out
 generalize w4.drew=z0 at K0 hHeld ⊢
 refine tkZ 1 ?_
 refine tkZ 2 ?_
 refine wpAnyH_ready (rs:=[0]) (by as_aux_lemma => kernel_rfl) (by simp) ?_
 refine AllReadyH.cons rfl (fun Kx hK => ?_) AllReadyH.nil
 go_simp
 refine (kindsC_any _).mono ?_
 rintro e z1001 ⟨rfl,hfn,bz1001⟩
 have K1001:=hZq (below2Z K0.out bz1001)
 have D1001:=hZq (heldB_up K1001.out D0.out)
 have HFN:=hZq hfn
 clear hfn
 clear bz1001
 go_wp2_with fail
 refine hK.out _ _ ?_ (fun hHeld2 => ?_)
 ·exact D1001.out
 clear hK Kx hHeld
 have hHeld:=hHeld2
 clear hHeld2
 try simp only [Act.put,List.setIfInBounds_toArray,List.set_cons_zero,List.set_cons_succ]
 have hlk:=HL.out HFN.out
 refine wpAnyH_ready (rs:=[3]) (by as_aux_lemma => kernel_rfl) (by simp) ?_
 refine AllReadyH.cons rfl (fun Kx hK => ?_) AllReadyH.nil
 go_simp
 refine hK.out _ _ ?_ (fun hHeld2 => ?_)
 ·exact heldB_up (K1001.out) D0.out
 clear hK Kx hHeld hlk
 have hHeld:=hHeld2
 clear hHeld2
 try simp only [Act.put,List.setIfInBounds_toArray,List.set_cons_zero,List.set_cons_succ]
 refine tkZ 4 ?_
 refine tkZ 5 ?_
 refine tkZ 6 ?_
 refine tkZ 7 ?_
 refine tkZ 8 ?_
 refine wpAnyH_done (by kernel_rfl) ?_ _
 replace CB:=hZq (upQ CB.out K1001.out)
 replace FB:=hZq (upQ FB.out K1001.out)
 replace RB:=hZq (upQ RB.out K1001.out)
 replace HB:=hZq (below2Z HB.out K1001.out)
 try clear hHeld
 try clear D0
 try clear K0
 clear HFN
 have CBo:=blk3 CB.out
 have RBo:=blk3 RB.out
 go_wp2_with fail
 clear CBo RBo
 have hz:=stN3_heap RB.out (.slice ca t.length cc) (.int .i64 n) (.bool o)
 have hle:w.heap.size≤w.heap.size+1+1:=by omega
 obtain⟨⟨z0,z1,z2⟩,-⟩:=blk3 hz
 unfold stN3 at z0 z1 z2
 refine bodyPost_ret (v:=.agg #[.slice ca t.length cc,.int .i64 n,.bool o]) (by simp [results,Tryz.results68,go_sem,z0,z1,z2]) rfl ?_
 exact⟨_,rfl,.inl ⟨rfl,rfl⟩,((HB.out.setCell hle _).setCell hle _).setCell hle _⟩

theorem clfeed_u {w:World} {v vt:Value} {t:List Row} {k s sh pr si:Int} {on:Bool} {c st:List UInt8} {sum:Nat} {tt:List Row} (hv:Tab w v t) (hvt:Tab w vt tt) (n:Int) (o:Bool) {F:Nat} (hsT:Hid (Short t)) (hsh:Hid (Short tt)) (hc:c.length≤4294967296) (hst:st.length≤4294967296) (_hk:(Lit.int .i64 k).wf=true) (HL:Hid (∀ {z:World} {B:Nat},FnMap z B kindFnsC→(Instr.lookup 130 (.map (some B)) (.int .i64 k) true).run Tryz.prog z=.ok (.tuple #[.func (.func F) #[] #[],.bool true]) z)) (hk4:¬ k=4) (hno:clTakes ⟨t,n,o⟩ ⟨k,s,on,c,⟨sh,pr,si,st⟩,sum,tt⟩=false) :
  Calls Tryz.prog 68 #[.agg #[v,.int .i64 n,.bool o],.agg #[.int .i64 k,.int .i64 s,.bool on,.string ⟨c.toArray⟩,.int .i64 sh,.int .i64 pr,.int .i64 si,.string ⟨st.toArray⟩,.int .u64 sum,vt]] w fun e w' => ∃ u,e=.returned (.agg #[u,.int .i64 n,.bool o])∧CT w' w.heap.size u v vt t t tt∧Below w.heap.size w w':=by
 obtain⟨ca,cc,rfl,-⟩:=hv.open'
 obtain⟨ta,tc,rfl,-⟩:=hvt.open'
 have VA:=hZq (fun X (hX:Below w.heap.size w X) => hv.later hX)
 have VT:=hZq (fun X (hX:Below w.heap.size w X) => hvt.later hX)
 obtain⟨CB,FB,RB,HB⟩:=ent3 w (.cells #[.slice ca t.length cc,.int .i64 n,.bool o] 33) (.cells #[.int .i64 k,.int .i64 s,.bool on,.string ⟨c.toArray⟩,.int .i64 sh,.int .i64 pr,.int .i64 si,.string ⟨st.toArray⟩,.int .u64 sum,.slice ta tt.length tc] 56) (.cells #[.slice none 0 0,.int .i64 0,.bool false] 33)
 clear hv hvt
 go_enter Tryz.func68,Tryz.ntmps68
 go_upto_region 1 with fail
 generalize ((w.alloc (.cells #[.slice ca t.length cc,.int .i64 n,.bool o] 33)).alloc (.cells #[.int .i64 k,.int .i64 s,.bool on,.string ⟨c.toArray⟩,.int .i64 sh,.int .i64 pr,.int .i64 si,.string ⟨st.toArray⟩,.int .u64 sum,.slice ta tt.length tc] 56)).alloc (.cells #[.slice none 0 0,.int .i64 0,.bool false] 33)=w4 at CB FB RB HB ⊢
 obtain⟨BS,hBS⟩ : ∃ BS:List (Nat × List Value),BS=[(w.heap.size,[.slice ca t.length cc,.int .i64 n,.bool o]),(w.heap.size+1,[.int .i64 k,.int .i64 s,.bool on,.string ⟨c.toArray⟩,.int .i64 sh,.int .i64 pr,.int .i64 si,.string ⟨st.toArray⟩,.int .u64 sum,.slice ta tt.length tc]),(w.heap.size+1+1,[.slice none 0 0,.int .i64 0,.bool false])]:=⟨_,rfl⟩
 have D0:=hZq (show heldB w4 BS from by rw [hBS]; exact heldB_cons (cellsAt_block CB.out) (heldB_cons (cellsAt_block FB.out) (heldB_cons (cellsAt_block RB.out) (heldB_nil _))))
 have hL:=heldB_at (b:=w.heap.size) (vs:=[.slice ca t.length cc,.int .i64 n,.bool o]) (bs:=BS) (by rw [hBS]; simp)
 have hq0:=hL 0 _ rfl
 have hq1:=hL 1 _ rfl
 have hq2:=hL 2 _ rfl
 clear hL
 have hL:=heldB_at (b:=w.heap.size+1) (vs:=[.int .i64 k,.int .i64 s,.bool on,.string ⟨c.toArray⟩,.int .i64 sh,.int .i64 pr,.int .i64 si,.string ⟨st.toArray⟩,.int .u64 sum,.slice ta tt.length tc]) (bs:=BS) (by rw [hBS]; simp)
 have hq3:=hL 0 _ rfl
 have hq4:=hL 1 _ rfl
 have hq5:=hL 2 _ rfl
 have hq6:=hL 3 _ rfl
 have hq7:=hL 4 _ rfl
 have hq8:=hL 5 _ rfl
 have hq9:=hL 6 _ rfl
 have hq10:=hL 7 _ rfl
 have hq11:=hL 8 _ rfl
 have hq12:=hL 9 _ rfl
 clear hL
 have hL:=heldB_at (b:=w.heap.size+1+1) (vs:=[.slice none 0 0,.int .i64 0,.bool false]) (bs:=BS) (by rw [hBS]; simp)
 have hq13:=hL 0 _ rfl
 have hq14:=hL 1 _ rfl
 have hq15:=hL 2 _ rfl
 clear hL
 clear hBS
 have K0:Hid (Below w4.heap.size w4 w4.drew):=hZq (Below.refl _ _).drew
 refine wp_region_held_drew (S:=(fun X => heldB X BS)) (by kernel_rfl) ?_ (fun hHeld => ?_)
 ·exact heldB_up K0.out D0.out
 generalize w4.drew=z0 at K0 hHeld ⊢
 refine tkZ 1 ?_
 refine tkZ 2 ?_
 refine wpAnyH_ready (rs:=[0]) (by as_aux_lemma => kernel_rfl) (by simp) ?_
 refine AllReadyH.cons rfl (fun Kx hK => ?_) AllReadyH.nil
 go_simp
 refine (kindsC_any _).mono ?_
 rintro e z1001 ⟨rfl,hfn,bz1001⟩
 have K1001:=hZq (below2Z K0.out bz1001)
 have D1001:=hZq (heldB_up K1001.out D0.out)
 have HFN:=hZq hfn
 clear hfn
 clear bz1001
 go_wp2_with fail
 refine hK.out _ _ ?_ (fun hHeld2 => ?_)
 ·exact D1001.out
 clear hK Kx hHeld
 have hHeld:=hHeld2
 clear hHeld2
 try simp only [Act.put,List.setIfInBounds_toArray,List.set_cons_zero,List.set_cons_succ]
 have hlk:=HL.out HFN.out
 refine wpAnyH_ready (rs:=[3]) (by as_aux_lemma => kernel_rfl) (by simp) ?_
 refine AllReadyH.cons rfl (fun Kx hK => ?_) AllReadyH.nil
 go_simp
 refine hK.out _ _ ?_ (fun hHeld2 => ?_)
 ·exact heldB_up (K1001.out) D0.out
 clear hK Kx hHeld hlk
 have hHeld:=hHeld2
 clear hHeld2
 try simp only [Act.put,List.setIfInBounds_toArray,List.set_cons_zero,List.set_cons_succ]
 refine tkZ 4 ?_
 refine tkZ 5 ?_
 refine tkZ 6 ?_
 refine tkZ 7 ?_
 refine tkZ 8 ?_
 refine wpAnyH_done (by kernel_rfl) ?_ _
 replace CB:=hZq (upQ CB.out K1001.out)
 replace FB:=hZq (upQ FB.out K1001.out)
 replace RB:=hZq (upQ RB.out K1001.out)
 replace HB:=hZq (below2Z HB.out K1001.out)
 try clear hHeld
 try clear D0
 try clear K0
 clear HFN
 have FBo:=blk10 FB.out
 go_wp2_with fail
 clear FBo
 cases hm:frMay ⟨k,s,on,c,⟨sh,pr,si,st⟩,sum,tt⟩ with
 | false =>
  have HM:=hZq hm
  refine (frmay_eqF (VT.out _ HB.out) hsh.out hc hst HM).mono ?_
  rintro e w101 ⟨rfl,b101⟩
  replace CB:=hZq (upQ CB.out b101)
  replace FB:=hZq (upQ FB.out b101)
  replace RB:=hZq (upQ RB.out b101)
  replace HB:=hZq (below2Z HB.out b101)
  clear b101
  have CBo:=blk3 CB.out
  have RBo:=blk3 RB.out
  go_wp2_with fail
  clear CBo RBo
  have hz:=stN3_heap RB.out (.slice ca t.length cc) (.int .i64 n) (.bool o)
  have hle:w.heap.size≤w.heap.size+1+1:=by omega
  obtain⟨⟨z0,z1,z2⟩,-⟩:=blk3 hz
  unfold stN3 at z0 z1 z2
  refine bodyPost_ret (v:=.agg #[.slice ca t.length cc,.int .i64 n,.bool o]) (by simp [results,Tryz.results68,go_sem,z0,z1,z2]) rfl ?_
  exact⟨_,rfl,.inl ⟨rfl,rfl⟩,((HB.out.setCell hle _).setCell hle _).setCell hle _⟩
 | true =>
  have HM:=hZq hm
  refine (frmay_eqF (VT.out _ HB.out) hsh.out hc hst HM).mono ?_
  rintro e w201 ⟨rfl,b201⟩
  replace CB:=hZq (upQ CB.out b201)
  replace FB:=hZq (upQ FB.out b201)
  replace RB:=hZq (upQ RB.out b201)
  replace HB:=hZq (below2Z HB.out b201)
  clear b201
  have CBo:=blk3 CB.out
  go_wp2_with fail
  clear CBo
  cases hcm:clMay ⟨t,n,o⟩ with
  | false =>
   have HC:=hZq hcm
   refine (clmay_eq (VA.out _ HB.out) hsT.out n o HC).mono ?_
   rintro e w301 ⟨rfl,b301⟩
   replace CB:=hZq (upQ CB.out b301)
   replace FB:=hZq (upQ FB.out b301)
   replace RB:=hZq (upQ RB.out b301)
   replace HB:=hZq (below2Z HB.out b301)
   clear b301
   have CBo:=blk3 CB.out
   have RBo:=blk3 RB.out
   go_wp2_with fail
   clear CBo RBo
   have hz:=stN3_heap RB.out (.slice ca t.length cc) (.int .i64 n) (.bool o)
   have hle:w.heap.size≤w.heap.size+1+1:=by omega
   obtain⟨⟨z0,z1,z2⟩,-⟩:=blk3 hz
   unfold stN3 at z0 z1 z2
   refine bodyPost_ret (v:=.agg #[.slice ca t.length cc,.int .i64 n,.bool o]) (by simp [results,Tryz.results68,go_sem,z0,z1,z2]) rfl ?_
   exact⟨_,rfl,.inl ⟨rfl,rfl⟩,((HB.out.setCell hle _).setCell hle _).setCell hle _⟩
  | true =>
   have HC:=hZq hcm
   have hlt:s < n:=by
    by_cases h:s < n
    ·exact h
    ·rw [clTakes_of hm hk4 hcm (show n≤s by omega)] at hno; cases hno
   have g1:decide (s < n)=true:=by rw [decide_eq_true_eq]; exact hlt
   clear hlt
   refine (clmay_eq (VA.out _ HB.out) hsT.out n o HC).mono ?_
   rintro e w401 ⟨rfl,b401⟩
   replace CB:=hZq (upQ CB.out b401)
   replace FB:=hZq (upQ FB.out b401)
   replace RB:=hZq (upQ RB.out b401)
   replace HB:=hZq (below2Z HB.out b401)
   clear b401
   have FBo:=blk10 FB.out
   have CBo:=blk3 CB.out
   have RBo:=blk3 RB.out
   go_wp2_with fail
   clear FBo CBo RBo
   have hz:=stN3_heap RB.out (.slice ca t.length cc) (.int .i64 n) (.bool o)
   have hle:w.heap.size≤w.heap.size+1+1:=by omega
   obtain⟨⟨z0,z1,z2⟩,-⟩:=blk3 hz
   unfold stN3 at z0 z1 z2
   refine bodyPost_ret (v:=.agg #[.slice ca t.length cc,.int .i64 n,.bool o]) (by simp [results,Tryz.results68,go_sem,z0,z1,z2]) rfl ?_
   exact⟨_,rfl,.inl ⟨rfl,rfl⟩,((HB.out.setCell hle _).setCell hle _).setCell hle _⟩

theorem clfeed_do1 {w:World} {v vt:Value} {t:List Row} {k s sh pr si:Int} {on:Bool} {c st:List UInt8} {sum:Nat} {tt:List Row} (hv:Tab w v t) (hvt:Tab w vt tt) (n:Int) {F:Nat} (HF:∀ (xs:Array Value) (X:World),(callFunc F xs).run Tryz.prog X=.ok (.enter F xs) X) (hsT:Hid (Short t)) (hsh:Hid (Short tt)) (hc:c.length≤4294967296) (hst:st.length≤4294967296) (_hk:(Lit.int .i64 k).wf=true) (HL:Hid (∀ {z:World} {B:Nat},FnMap z B kindFnsC→(Instr.lookup 130 (.map (some B)) (.int .i64 k) true).run Tryz.prog z=.ok (.tuple #[.func (.func F) #[] #[],.bool true]) z)) (HM:Hid (frMay ⟨k,s,on,c,⟨sh,pr,si,st⟩,sum,tt⟩=true)) (HC:Hid (clMay ⟨t,n,true⟩=true)) (hns:n≤s∧0≤s∧s≤1099511627776) {t2:List Row} {n2:Int} {o2:Bool}
  (HD:Hid (∀ X,Below w.heap.size w X→Calls Tryz.prog F #[.agg #[v,.int .i64 (s+1),.bool true],.agg #[.int .i64 k,.int .i64 s,.bool on,.string ⟨c.toArray⟩,.int .i64 sh,.int .i64 pr,.int .i64 si,.string ⟨st.toArray⟩,.int .u64 sum,vt]] X fun e X' => ∃ u,e=.returned (.agg #[u,.int .i64 n2,.bool o2])∧CT X' X.heap.size u v vt t2 t tt∧Below X.heap.size X X')) :
  Calls Tryz.prog 68 #[.agg #[v,.int .i64 n,.bool true],.agg #[.int .i64 k,.int .i64 s,.bool on,.string ⟨c.toArray⟩,.int .i64 sh,.int .i64 pr,.int .i64 si,.string ⟨st.toArray⟩,.int .u64 sum,vt]] w fun e w' => ∃ u,e=.returned (.agg #[u,.int .i64 n2,.bool o2])∧CT w' w.heap.size u v vt t2 t tt∧Below w.heap.size w w':=by
 have g1:decide (s < n)=false:=by rw [decide_eq_false_iff_not]; omega
 have hw:IntKind.i64.wrap (s+1)=s+1:=IntWalk.i64_in _ (by omega)
 clear hns
 obtain⟨ca,cc,rfl,-⟩:=hv.open'
 obtain⟨ta,tc,rfl,-⟩:=hvt.open'
 have VA:=hZq (fun X (hX:Below w.heap.size w X) => hv.later hX)
 have VT:=hZq (fun X (hX:Below w.heap.size w X) => hvt.later hX)
 obtain⟨CB,FB,RB,HB⟩:=ent3 w (.cells #[.slice ca t.length cc,.int .i64 n,.bool true] 33) (.cells #[.int .i64 k,.int .i64 s,.bool on,.string ⟨c.toArray⟩,.int .i64 sh,.int .i64 pr,.int .i64 si,.string ⟨st.toArray⟩,.int .u64 sum,.slice ta tt.length tc] 56) (.cells #[.slice none 0 0,.int .i64 0,.bool false] 33)
 clear hv hvt
 go_enter Tryz.func68,Tryz.ntmps68
 go_upto_region 1 with fail
 generalize ((w.alloc (.cells #[.slice ca t.length cc,.int .i64 n,.bool true] 33)).alloc (.cells #[.int .i64 k,.int .i64 s,.bool on,.string ⟨c.toArray⟩,.int .i64 sh,.int .i64 pr,.int .i64 si,.string ⟨st.toArray⟩,.int .u64 sum,.slice ta tt.length tc] 56)).alloc (.cells #[.slice none 0 0,.int .i64 0,.bool false] 33)=w4 at CB FB RB HB ⊢
 obtain⟨BS,hBS⟩ : ∃ BS:List (Nat × List Value),BS=[(w.heap.size,[.slice ca t.length cc,.int .i64 n,.bool true]),(w.heap.size+1,[.int .i64 k,.int .i64 s,.bool on,.string ⟨c.toArray⟩,.int .i64 sh,.int .i64 pr,.int .i64 si,.string ⟨st.toArray⟩,.int .u64 sum,.slice ta tt.length tc]),(w.heap.size+1+1,[.slice none 0 0,.int .i64 0,.bool false])]:=⟨_,rfl⟩
 have D0:=hZq (show heldB w4 BS from by rw [hBS]; exact heldB_cons (cellsAt_block CB.out) (heldB_cons (cellsAt_block FB.out) (heldB_cons (cellsAt_block RB.out) (heldB_nil _))))
 have hL:=heldB_at (b:=w.heap.size) (vs:=[.slice ca t.length cc,.int .i64 n,.bool true]) (bs:=BS) (by rw [hBS]; simp)
 have hq0:=hL 0 _ rfl
 have hq1:=hL 1 _ rfl
 have hq2:=hL 2 _ rfl
 clear hL
 have hL:=heldB_at (b:=w.heap.size+1) (vs:=[.int .i64 k,.int .i64 s,.bool on,.string ⟨c.toArray⟩,.int .i64 sh,.int .i64 pr,.int .i64 si,.string ⟨st.toArray⟩,.int .u64 sum,.slice ta tt.length tc]) (bs:=BS) (by rw [hBS]; simp)
 have hq3:=hL 0 _ rfl
 have hq4:=hL 1 _ rfl
 have hq5:=hL 2 _ rfl
 have hq6:=hL 3 _ rfl
 have hq7:=hL 4 _ rfl
 have hq8:=hL 5 _ rfl
 have hq9:=hL 6 _ rfl
 have hq10:=hL 7 _ rfl
 have hq11:=hL 8 _ rfl
 have hq12:=hL 9 _ rfl
 clear hL
 have hL:=heldB_at (b:=w.heap.size+1+1) (vs:=[.slice none 0 0,.int .i64 0,.bool false]) (bs:=BS) (by rw [hBS]; simp)
 have hq13:=hL 0 _ rfl
 have hq14:=hL 1 _ rfl
 have hq15:=hL 2 _ rfl
 clear hL
 clear hBS
 have K0:Hid (Below w4.heap.size w4 w4.drew):=hZq (Below.refl _ _).drew
 refine wp_region_held_drew (S:=(fun X => heldB X BS)) (by kernel_rfl) ?_ (fun hHeld => ?_)
 ·exact heldB_up K0.out D0.out
 generalize w4.drew=z0 at K0 hHeld ⊢
 refine tkZ 1 ?_
 refine tkZ 2 ?_
 refine wpAnyH_ready (rs:=[0]) (by as_aux_lemma => kernel_rfl) (by simp) ?_
 refine AllReadyH.cons rfl (fun Kx hK => ?_) AllReadyH.nil
 go_simp
 refine (kindsC_any _).mono ?_
 rintro e z1001 ⟨rfl,hfn,bz1001⟩
 have K1001:=hZq (below2Z K0.out bz1001)
 have D1001:=hZq (heldB_up K1001.out D0.out)
 have HFN:=hZq hfn
 clear hfn
 clear bz1001
 go_wp2_with fail
 refine hK.out _ _ ?_ (fun hHeld2 => ?_)
 ·exact D1001.out
 clear hK Kx hHeld
 have hHeld:=hHeld2
 clear hHeld2
 try simp only [Act.put,List.setIfInBounds_toArray,List.set_cons_zero,List.set_cons_succ]
 have hlk:=HL.out HFN.out
 refine wpAnyH_ready (rs:=[3]) (by as_aux_lemma => kernel_rfl) (by simp) ?_
 refine AllReadyH.cons rfl (fun Kx hK => ?_) AllReadyH.nil
 go_simp
 refine hK.out _ _ ?_ (fun hHeld2 => ?_)
 ·exact heldB_up (K1001.out) D0.out
 clear hK Kx hHeld hlk
 have hHeld:=hHeld2
 clear hHeld2
 try simp only [Act.put,List.setIfInBounds_toArray,List.set_cons_zero,List.set_cons_succ]
 refine tkZ 4 ?_
 refine tkZ 5 ?_
 refine tkZ 6 ?_
 refine tkZ 7 ?_
 refine tkZ 8 ?_
 refine wpAnyH_done (by kernel_rfl) ?_ _
 replace CB:=hZq (upQ CB.out K1001.out)
 replace FB:=hZq (upQ FB.out K1001.out)
 replace RB:=hZq (upQ RB.out K1001.out)
 replace HB:=hZq (below2Z HB.out K1001.out)
 try clear hHeld
 try clear D0
 try clear K0
 clear HFN
 have FBo:=blk10 FB.out
 go_wp2_with fail
 clear FBo
 refine (frmay_eqF (VT.out _ HB.out) hsh.out hc hst HM).mono ?_
 rintro e w5 ⟨rfl,b5⟩
 replace CB:=hZq (upQ CB.out b5)
 replace FB:=hZq (upQ FB.out b5)
 replace RB:=hZq (upQ RB.out b5)
 replace HB:=hZq (below2Z HB.out b5)
 clear b5
 have CBo:=blk3 CB.out
 go_wp2_with fail
 clear CBo
 refine (clmay_eq (VA.out _ HB.out) hsT.out n true HC).mono ?_
 rintro e w6 ⟨rfl,b6⟩
 replace CB:=hZq (upQ CB.out b6)
 replace FB:=hZq (upQ FB.out b6)
 replace RB:=hZq (upQ RB.out b6)
 replace HB:=hZq (below2Z HB.out b6)
 clear b6
 have CBo:=blk3 CB.out
 have FBo:=blk10 FB.out
 go_upto_region 5 with fail
 clear CBo FBo
 have CBz:=hZq (stS CB.out 2 (.bool true) [.slice ca t.length cc,.int .i64 n,.bool true] rfl)
 have FBz:=hZq (stK FB.out (a:=⟨w.heap.size,2,none⟩) (u:=.bool true) (show ¬ w.heap.size+1=w.heap.size by omega))
 have RBz:=hZq (stK RB.out (a:=⟨w.heap.size,2,none⟩) (u:=.bool true) (show ¬ w.heap.size+1+1=w.heap.size by omega))
 have HBz:=hZq (HB.out.setCell (p:=⟨w.heap.size,2,none⟩) (show w.heap.size≤w.heap.size by omega) (.bool true))
 clear HB CB FB RB
 generalize w6.setCell ⟨w.heap.size,2,none⟩ (.bool true)=w7 at CBz FBz RBz HBz ⊢
 have CB:=CBz
 clear CBz
 have FB:=FBz
 clear FBz
 have RB:=RBz
 clear RBz
 have HB:=HBz
 clear HBz
 have CBo:=blk3 CB.out
 have FBo:=blk10 FB.out
 go_upto_region 6 with fail
 clear CBo FBo
 have CBz:=hZq (stS CB.out 1 (.int .i64 (s+1)) [.slice ca t.length cc,.int .i64 (s+1),.bool true] rfl)
 have FBz:=hZq (stK FB.out (a:=⟨w.heap.size,1,none⟩) (u:=.int .i64 (s+1)) (show ¬ w.heap.size+1=w.heap.size by omega))
 have RBz:=hZq (stK RB.out (a:=⟨w.heap.size,1,none⟩) (u:=.int .i64 (s+1)) (show ¬ w.heap.size+1+1=w.heap.size by omega))
 have HBz:=hZq (HB.out.setCell (p:=⟨w.heap.size,1,none⟩) (show w.heap.size≤w.heap.size by omega) (.int .i64 (s+1)))
 clear HB CB FB RB
 generalize w7.setCell ⟨w.heap.size,1,none⟩ (.int .i64 (s+1))=w8 at CBz FBz RBz HBz ⊢
 have CB:=CBz
 clear CBz
 have FB:=FBz
 clear FBz
 have RB:=RBz
 clear RBz
 have HB:=HBz
 clear HBz
 have CBo:=blk3 CB.out
 have FBo:=blk10 FB.out
 go_wp2_with fail
 clear CBo FBo
 have hRB:=(Array.getElem?_eq_some_iff.1 RB.out).1
 refine (HD.out _ HB.out).mono ?_
 rintro e w9 ⟨u9,rfl,hu9,b9⟩
 replace CB:=hZq (upQ CB.out b9)
 replace FB:=hZq (upQ FB.out b9)
 replace RB:=hZq (upQ RB.out b9)
 replace HB:=hZq (below2Z HB.out b9)
 obtain⟨ua,un,uc,rfl⟩:=hu9.shape
 have U:=hZq (CT.mono hu9 (show w.heap.size+1+1+1≤_ from hRB))
 clear hu9 hRB
 clear b9
 have RBo:=blk3 RB.out
 go_wp2_with fail
 clear RBo
 have hz:=stN3_heap RB.out (.slice ua un uc) (.int .i64 n2) (.bool o2)
 have hle:w.heap.size≤w.heap.size+1+1:=by omega
 obtain⟨⟨z0,z1,z2⟩,-⟩:=blk3 hz
 unfold stN3 at z0 z1 z2
 refine bodyPost_ret (v:=.agg #[.slice ua un uc,.int .i64 n2,.bool o2]) (by simp [results,Tryz.results68,go_sem,z0,z1,z2]) rfl ?_
 have hlt2:w.heap.size+1+1 < w.heap.size+1+1+1:=Nat.lt_succ_self _
 exact⟨_,rfl,CT.mono (((U.out.set hlt2 _).set hlt2 _).set hlt2 _) (by omega),((HB.out.setCell hle _).setCell hle _).setCell hle _⟩

theorem clfeed_do2 {w:World} {v vt:Value} {t:List Row} {k s sh pr si:Int} {on:Bool} {c st:List UInt8} {sum:Nat} {tt:List Row} (hv:Tab w v t) (hvt:Tab w vt tt) (n:Int) {F:Nat} (HF:∀ (xs:Array Value) (X:World),(callFunc F xs).run Tryz.prog X=.ok (.enter F xs) X) (hsT:Hid (Short t)) (hsh:Hid (Short tt)) (hc:c.length≤4294967296) (hst:st.length≤4294967296) (_hk:(Lit.int .i64 k).wf=true) (HL:Hid (∀ {z:World} {B:Nat},FnMap z B kindFnsC→(Instr.lookup 130 (.map (some B)) (.int .i64 k) true).run Tryz.prog z=.ok (.tuple #[.func (.func F) #[] #[],.bool true]) z)) (HM:Hid (frMay ⟨k,s,on,c,⟨sh,pr,si,st⟩,sum,tt⟩=true)) (HC:Hid (clMay ⟨t,n,false⟩=true)) (hns:n≤s∧0≤s∧s≤1099511627776) {og:Bool} (hg:decide (n < s)=og) {t2:List Row} {n2:Int} {o2:Bool}
  (HD:Hid (∀ X,Below w.heap.size w X→Calls Tryz.prog F #[.agg #[v,.int .i64 (s+1),.bool og],.agg #[.int .i64 k,.int .i64 s,.bool on,.string ⟨c.toArray⟩,.int .i64 sh,.int .i64 pr,.int .i64 si,.string ⟨st.toArray⟩,.int .u64 sum,vt]] X fun e X' => ∃ u,e=.returned (.agg #[u,.int .i64 n2,.bool o2])∧CT X' X.heap.size u v vt t2 t tt∧Below X.heap.size X X')) :
  Calls Tryz.prog 68 #[.agg #[v,.int .i64 n,.bool false],.agg #[.int .i64 k,.int .i64 s,.bool on,.string ⟨c.toArray⟩,.int .i64 sh,.int .i64 pr,.int .i64 si,.string ⟨st.toArray⟩,.int .u64 sum,vt]] w fun e w' => ∃ u,e=.returned (.agg #[u,.int .i64 n2,.bool o2])∧CT w' w.heap.size u v vt t2 t tt∧Below w.heap.size w w':=by
 have g1:decide (s < n)=false:=by rw [decide_eq_false_iff_not]; omega
 have hw:IntKind.i64.wrap (s+1)=s+1:=IntWalk.i64_in _ (by omega)
 have g2:decide (n < s)=og:=hg
 clear hg
 clear hns
 obtain⟨ca,cc,rfl,-⟩:=hv.open'
 obtain⟨ta,tc,rfl,-⟩:=hvt.open'
 have VA:=hZq (fun X (hX:Below w.heap.size w X) => hv.later hX)
 have VT:=hZq (fun X (hX:Below w.heap.size w X) => hvt.later hX)
 obtain⟨CB,FB,RB,HB⟩:=ent3 w (.cells #[.slice ca t.length cc,.int .i64 n,.bool false] 33) (.cells #[.int .i64 k,.int .i64 s,.bool on,.string ⟨c.toArray⟩,.int .i64 sh,.int .i64 pr,.int .i64 si,.string ⟨st.toArray⟩,.int .u64 sum,.slice ta tt.length tc] 56) (.cells #[.slice none 0 0,.int .i64 0,.bool false] 33)
 clear hv hvt
 go_enter Tryz.func68,Tryz.ntmps68
 go_upto_region 1 with fail
 generalize ((w.alloc (.cells #[.slice ca t.length cc,.int .i64 n,.bool false] 33)).alloc (.cells #[.int .i64 k,.int .i64 s,.bool on,.string ⟨c.toArray⟩,.int .i64 sh,.int .i64 pr,.int .i64 si,.string ⟨st.toArray⟩,.int .u64 sum,.slice ta tt.length tc] 56)).alloc (.cells #[.slice none 0 0,.int .i64 0,.bool false] 33)=w4 at CB FB RB HB ⊢
 obtain⟨BS,hBS⟩ : ∃ BS:List (Nat × List Value),BS=[(w.heap.size,[.slice ca t.length cc,.int .i64 n,.bool false]),(w.heap.size+1,[.int .i64 k,.int .i64 s,.bool on,.string ⟨c.toArray⟩,.int .i64 sh,.int .i64 pr,.int .i64 si,.string ⟨st.toArray⟩,.int .u64 sum,.slice ta tt.length tc]),(w.heap.size+1+1,[.slice none 0 0,.int .i64 0,.bool false])]:=⟨_,rfl⟩
 have D0:=hZq (show heldB w4 BS from by rw [hBS]; exact heldB_cons (cellsAt_block CB.out) (heldB_cons (cellsAt_block FB.out) (heldB_cons (cellsAt_block RB.out) (heldB_nil _))))
 have hL:=heldB_at (b:=w.heap.size) (vs:=[.slice ca t.length cc,.int .i64 n,.bool false]) (bs:=BS) (by rw [hBS]; simp)
 have hq0:=hL 0 _ rfl
 have hq1:=hL 1 _ rfl
 have hq2:=hL 2 _ rfl
 clear hL
 have hL:=heldB_at (b:=w.heap.size+1) (vs:=[.int .i64 k,.int .i64 s,.bool on,.string ⟨c.toArray⟩,.int .i64 sh,.int .i64 pr,.int .i64 si,.string ⟨st.toArray⟩,.int .u64 sum,.slice ta tt.length tc]) (bs:=BS) (by rw [hBS]; simp)
 have hq3:=hL 0 _ rfl
 have hq4:=hL 1 _ rfl
 have hq5:=hL 2 _ rfl
 have hq6:=hL 3 _ rfl
 have hq7:=hL 4 _ rfl
 have hq8:=hL 5 _ rfl
 have hq9:=hL 6 _ rfl
 have hq10:=hL 7 _ rfl
 have hq11:=hL 8 _ rfl
 have hq12:=hL 9 _ rfl
 clear hL
 have hL:=heldB_at (b:=w.heap.size+1+1) (vs:=[.slice none 0 0,.int .i64 0,.bool false]) (bs:=BS) (by rw [hBS]; simp)
 have hq13:=hL 0 _ rfl
 have hq14:=hL 1 _ rfl
 have hq15:=hL 2 _ rfl
 clear hL
 clear hBS
 have K0:Hid (Below w4.heap.size w4 w4.drew):=hZq (Below.refl _ _).drew
 refine wp_region_held_drew (S:=(fun X => heldB X BS)) (by kernel_rfl) ?_ (fun hHeld => ?_)
 ·exact heldB_up K0.out D0.out
 generalize w4.drew=z0 at K0 hHeld ⊢
 refine tkZ 1 ?_
 refine tkZ 2 ?_
 refine wpAnyH_ready (rs:=[0]) (by as_aux_lemma => kernel_rfl) (by simp) ?_
 refine AllReadyH.cons rfl (fun Kx hK => ?_) AllReadyH.nil
 go_simp
 refine (kindsC_any _).mono ?_
 rintro e z1001 ⟨rfl,hfn,bz1001⟩
 have K1001:=hZq (below2Z K0.out bz1001)
 have D1001:=hZq (heldB_up K1001.out D0.out)
 have HFN:=hZq hfn
 clear hfn
 clear bz1001
 go_wp2_with fail
 refine hK.out _ _ ?_ (fun hHeld2 => ?_)
 ·exact D1001.out
 clear hK Kx hHeld
 have hHeld:=hHeld2
 clear hHeld2
 try simp only [Act.put,List.setIfInBounds_toArray,List.set_cons_zero,List.set_cons_succ]
 have hlk:=HL.out HFN.out
 refine wpAnyH_ready (rs:=[3]) (by as_aux_lemma => kernel_rfl) (by simp) ?_
 refine AllReadyH.cons rfl (fun Kx hK => ?_) AllReadyH.nil
 go_simp
 refine hK.out _ _ ?_ (fun hHeld2 => ?_)
 ·exact heldB_up (K1001.out) D0.out
 clear hK Kx hHeld hlk
 have hHeld:=hHeld2
 clear hHeld2
 try simp only [Act.put,List.setIfInBounds_toArray,List.set_cons_zero,List.set_cons_succ]
 refine tkZ 4 ?_
 refine tkZ 5 ?_
 refine tkZ 6 ?_
 refine tkZ 7 ?_
 refine tkZ 8 ?_
 refine wpAnyH_done (by kernel_rfl) ?_ _
 replace CB:=hZq (upQ CB.out K1001.out)
 replace FB:=hZq (upQ FB.out K1001.out)
 replace RB:=hZq (upQ RB.out K1001.out)
 replace HB:=hZq (below2Z HB.out K1001.out)
 try clear hHeld
 try clear D0
 try clear K0
 clear HFN
 have FBo:=blk10 FB.out
 go_wp2_with fail
 clear FBo
 refine (frmay_eqF (VT.out _ HB.out) hsh.out hc hst HM).mono ?_
 rintro e w5 ⟨rfl,b5⟩
 replace CB:=hZq (upQ CB.out b5)
 replace FB:=hZq (upQ FB.out b5)
 replace RB:=hZq (upQ RB.out b5)
 replace HB:=hZq (below2Z HB.out b5)
 clear b5
 have CBo:=blk3 CB.out
 go_wp2_with fail
 clear CBo
 refine (clmay_eq (VA.out _ HB.out) hsT.out n false HC).mono ?_
 rintro e w6 ⟨rfl,b6⟩
 replace CB:=hZq (upQ CB.out b6)
 replace FB:=hZq (upQ FB.out b6)
 replace RB:=hZq (upQ RB.out b6)
 replace HB:=hZq (below2Z HB.out b6)
 clear b6
 have CBo:=blk3 CB.out
 have FBo:=blk10 FB.out
 go_upto_region 5 with fail
 clear CBo FBo
 have CBz:=hZq (stS CB.out 2 (.bool og) [.slice ca t.length cc,.int .i64 n,.bool og] rfl)
 have FBz:=hZq (stK FB.out (a:=⟨w.heap.size,2,none⟩) (u:=.bool og) (show ¬ w.heap.size+1=w.heap.size by omega))
 have RBz:=hZq (stK RB.out (a:=⟨w.heap.size,2,none⟩) (u:=.bool og) (show ¬ w.heap.size+1+1=w.heap.size by omega))
 have HBz:=hZq (HB.out.setCell (p:=⟨w.heap.size,2,none⟩) (show w.heap.size≤w.heap.size by omega) (.bool og))
 clear HB CB FB RB
 generalize w6.setCell ⟨w.heap.size,2,none⟩ (.bool og)=w7 at CBz FBz RBz HBz ⊢
 have CB:=CBz
 clear CBz
 have FB:=FBz
 clear FBz
 have RB:=RBz
 clear RBz
 have HB:=HBz
 clear HBz
 have CBo:=blk3 CB.out
 have FBo:=blk10 FB.out
 go_upto_region 6 with fail
 clear CBo FBo
 have CBz:=hZq (stS CB.out 1 (.int .i64 (s+1)) [.slice ca t.length cc,.int .i64 (s+1),.bool og] rfl)
 have FBz:=hZq (stK FB.out (a:=⟨w.heap.size,1,none⟩) (u:=.int .i64 (s+1)) (show ¬ w.heap.size+1=w.heap.size by omega))
 have RBz:=hZq (stK RB.out (a:=⟨w.heap.size,1,none⟩) (u:=.int .i64 (s+1)) (show ¬ w.heap.size+1+1=w.heap.size by omega))
 have HBz:=hZq (HB.out.setCell (p:=⟨w.heap.size,1,none⟩) (show w.heap.size≤w.heap.size by omega) (.int .i64 (s+1)))
 clear HB CB FB RB
 generalize w7.setCell ⟨w.heap.size,1,none⟩ (.int .i64 (s+1))=w8 at CBz FBz RBz HBz ⊢
 have CB:=CBz
 clear CBz
 have FB:=FBz
 clear FBz
 have RB:=RBz
 clear RBz
 have HB:=HBz
 clear HBz
 have CBo:=blk3 CB.out
 have FBo:=blk10 FB.out
 go_wp2_with fail
 clear CBo FBo
 have hRB:=(Array.getElem?_eq_some_iff.1 RB.out).1
 refine (HD.out _ HB.out).mono ?_
 rintro e w9 ⟨u9,rfl,hu9,b9⟩
 replace CB:=hZq (upQ CB.out b9)
 replace FB:=hZq (upQ FB.out b9)
 replace RB:=hZq (upQ RB.out b9)
 replace HB:=hZq (below2Z HB.out b9)
 obtain⟨ua,un,uc,rfl⟩:=hu9.shape
 have U:=hZq (CT.mono hu9 (show w.heap.size+1+1+1≤_ from hRB))
 clear hu9 hRB
 clear b9
 have RBo:=blk3 RB.out
 go_wp2_with fail
 clear RBo
 have hz:=stN3_heap RB.out (.slice ua un uc) (.int .i64 n2) (.bool o2)
 have hle:w.heap.size≤w.heap.size+1+1:=by omega
 obtain⟨⟨z0,z1,z2⟩,-⟩:=blk3 hz
 unfold stN3 at z0 z1 z2
 refine bodyPost_ret (v:=.agg #[.slice ua un uc,.int .i64 n2,.bool o2]) (by simp [results,Tryz.results68,go_sem,z0,z1,z2]) rfl ?_
 have hlt2:w.heap.size+1+1 < w.heap.size+1+1+1:=Nat.lt_succ_self _
 exact⟨_,rfl,CT.mono (((U.out.set hlt2 _).set hlt2 _).set hlt2 _) (by omega),((HB.out.setCell hle _).setCell hle _).setCell hle _⟩

theorem clfeed_k {w:World} {v vt:Value} {t:List Row} {k s sh pr si:Int} {on:Bool} {c st:List UInt8} {sum:Nat} {tt:List Row} (hv:Tab w v t) (hvt:Tab w vt tt) (n:Int) (o:Bool) {F:Nat} (HF:∀ (xs:Array Value) (X:World),(callFunc F xs).run Tryz.prog X=.ok (.enter F xs) X) (hsT:Short t) (hsh:Short tt) (hc:c.length≤4294967296) (hst:st.length≤4294967296) (hk:(Lit.int .i64 k).wf=true) (HL:Hid (∀ {z:World} {B:Nat},FnMap z B kindFnsC→(Instr.lookup 130 (.map (some B)) (.int .i64 k) true).run Tryz.prog z=.ok (.tuple #[.func (.func F) #[] #[],.bool true]) z)) (hk4:¬ k=4) {t2:List Row} {n2:Int} {o2:Bool} (h:clFeed ⟨t,n,o⟩ ⟨k,s,on,c,⟨sh,pr,si,st⟩,sum,tt⟩=⟨t2,n2,o2⟩)
  (HD:clDo ⟨t,n,o⟩ ⟨k,s,on,c,⟨sh,pr,si,st⟩,sum,tt⟩=⟨t2,n2,o2⟩→∀ X,Below w.heap.size w X→Calls Tryz.prog F #[.agg #[v,.int .i64 (s+1),.bool (o || decide (n < s))],.agg #[.int .i64 k,.int .i64 s,.bool on,.string ⟨c.toArray⟩,.int .i64 sh,.int .i64 pr,.int .i64 si,.string ⟨st.toArray⟩,.int .u64 sum,vt]] X fun e X' => ∃ u,e=.returned (.agg #[u,.int .i64 n2,.bool o2])∧CT X' X.heap.size u v vt t2 t tt∧Below X.heap.size X X') :
  Calls Tryz.prog 68 #[.agg #[v,.int .i64 n,.bool o],.agg #[.int .i64 k,.int .i64 s,.bool on,.string ⟨c.toArray⟩,.int .i64 sh,.int .i64 pr,.int .i64 si,.string ⟨st.toArray⟩,.int .u64 sum,vt]] w fun e w' => ∃ u,e=.returned (.agg #[u,.int .i64 n2,.bool o2])∧CT w' w.heap.size u v vt t2 t tt∧Below w.heap.size w w':=by
 have keep:clTakes ⟨t,n,o⟩ ⟨k,s,on,c,⟨sh,pr,si,st⟩,sum,tt⟩=false→t2=t∧n2=n∧o2=o:=fun ht => by
  unfold clFeed at h
  rw [if_neg (by rw [ht]; decide)] at h
  simp only [Cli.mk.injEq] at h
  exact⟨h.1.symm,h.2.1.symm,h.2.2.symm⟩
 cases ht:clTakes ⟨t,n,o⟩ ⟨k,s,on,c,⟨sh,pr,si,st⟩,sum,tt⟩ with
 | false =>
  obtain⟨rfl,rfl,rfl⟩:=keep ht
  exact clfeed_u hv hvt n2 o2 (hZq hsT) (hZq hsh) hc hst hk HL hk4 ht
 | true =>
  obtain⟨hm,_,hcm,hns⟩:=clTakes_parts ht
  have hd:clDo ⟨t,n,o⟩ ⟨k,s,on,c,⟨sh,pr,si,st⟩,sum,tt⟩=⟨t2,n2,o2⟩:=by
   unfold clFeed at h
   rwa [if_pos ht] at h
  have ho:=frMay_iff.1 hm
  have hss:n≤s∧0≤s∧s≤1099511627776:=⟨hns,ho.s0,ho.s1⟩
  have HX:=HD hd
  cases o with
  | true => exact clfeed_do1 hv hvt n HF (hZq hsT) (hZq hsh) hc hst hk HL (hZq hm) (hZq hcm) hss (hZq HX)
  | false => exact clfeed_do2 hv hvt n HF (hZq hsT) (hZq hsh) hc hst hk HL (hZq hm) (hZq hcm) hss rfl (hZq HX)

theorem clfeed_any {w:World} {v vt:Value} {t:List Row} {k s sh pr si:Int} {on:Bool} {c st:List UInt8} {sum:Nat} {tt:List Row} (hv:Tab w v t) (hvt:Tab w vt tt) (n:Int) (o:Bool) (hsT:Short t) (hsh:Short tt) (hc:c.length≤4294967296) (hst:st.length≤4294967296) (hk:(Lit.int .i64 k).wf=true) (hl:t.length≤1000) (hl2:tt.length≤1000) {t2:List Row} {n2:Int} {o2:Bool} (h:Hid (clFeed ⟨t,n,o⟩ ⟨k,s,on,c,⟨sh,pr,si,st⟩,sum,tt⟩=⟨t2,n2,o2⟩)) :
  Calls Tryz.prog 68 #[.agg #[v,.int .i64 n,.bool o],.agg #[.int .i64 k,.int .i64 s,.bool on,.string ⟨c.toArray⟩,.int .i64 sh,.int .i64 pr,.int .i64 si,.string ⟨st.toArray⟩,.int .u64 sum,vt]] w fun e w' => ∃ u,e=.returned (.agg #[u,.int .i64 n2,.bool o2])∧CT w' w.heap.size u v vt t2 t tt∧Below w.heap.size w w':=by
 have h:=h.out
 by_cases h1:k=1
 ·subst h1
  refine clfeed_k hv hvt n o (F:=125) (fun _ _ => by kernel_rfl) hsT hsh hc hst hk (hZq fun h => h.lookC 1 (by decide)) (by decide) h (fun hd X hX => ?_)
  unfold clDo at hd
  rw [if_neg (by show ¬ (1:Int)=3; decide)] at hd
  cases ho:(o || decide (n < s)) with
  | true =>
   rw [if_pos ho] at hd
   simp only [Cli.mk.injEq] at hd
   obtain⟨rfl,rfl,rfl⟩:=hd
   exact clchg_a (hv.later hX) (hvt.later hX) (s+1)
  | false =>
   rw [if_neg (by show ¬ (o || decide (n < s))=true; rw [ho]; decide),if_neg (by show ¬ (1:Int)=2; decide)] at hd
   simp only at hd
   cases hm:diMay (diSet t ⟨c,on,⟨sh,pr,si,st⟩⟩) with
   | false =>
    rw [if_neg (by rw [hm]; decide)] at hd
    simp only [Cli.mk.injEq] at hd
    obtain⟨rfl,rfl,rfl⟩:=hd
    exact clchg_b (hv.later hX) (hvt.later hX) (s+1) hl (clset_short hsT hc hst) (hZq hm)
   | true =>
    rw [if_pos hm] at hd
    simp only [Cli.mk.injEq] at hd
    obtain⟨rfl,rfl,rfl⟩:=hd
    exact clchg_c (hv.later hX) (hvt.later hX) (s+1) hl (clset_short hsT hc hst) (hZq hm)
 ·by_cases h2:k=2
  ·subst h2
   refine clfeed_k hv hvt n o (F:=126) (fun _ _ => by kernel_rfl) hsT hsh hc hst hk (hZq fun h => h.lookC 2 (by decide)) (by decide) h (fun hd X hX => ?_)
   unfold clDo at hd
   rw [if_neg (by show ¬ (2:Int)=3; decide)] at hd
   cases ho:(o || decide (n < s)) with
   | true =>
    rw [if_pos ho] at hd
    simp only [Cli.mk.injEq] at hd
    obtain⟨rfl,rfl,rfl⟩:=hd
    exact clchk_a (hv.later hX) (hvt.later hX) (s+1)
   | false =>
    rw [if_neg (by show ¬ (o || decide (n < s))=true; rw [ho]; decide),if_pos rfl] at hd
    simp only [Cli.mk.injEq] at hd
    obtain⟨rfl,rfl,rfl⟩:=hd
    refine clchk_b (hv.later hX) (hvt.later hX) (s+1) hsT (z:=diSum t) (hZq rfl) ?_
    rw [Bool.eq_iff_iff]
    simp [Int.ofNat_inj]
  ·by_cases h3:k=3
   ·subst h3
    refine clfeed_k hv hvt n o (F:=127) (fun _ _ => by kernel_rfl) hsT hsh hc hst hk (hZq fun h => h.lookC 3 (by decide)) (by decide) h (fun hd X hX => ?_)
    unfold clDo at hd
    rw [if_pos rfl] at hd
    simp only [Cli.mk.injEq] at hd
    obtain⟨rfl,rfl,rfl⟩:=hd
    exact clrep_any (hv.later hX) (hvt.later hX) (s+1) _ hl2
   ·have hno:kindFnsC.any (fun x => x.1 == k)=false∧kindFnsC.find? (fun x => x.1 == k)=none:=by
     have g1:((1:Int) == k)=false:=by rw [beq_eq_false_iff_ne]; omega
     have g2:((2:Int) == k)=false:=by rw [beq_eq_false_iff_ne]; omega
     have g3:((3:Int) == k)=false:=by rw [beq_eq_false_iff_ne]; omega
     simp [kindFnsC,g1,g2,g3]
    have ht:clTakes ⟨t,n,o⟩ ⟨k,s,on,c,⟨sh,pr,si,st⟩,sum,tt⟩=false:=by
     cases hm:clTakes ⟨t,n,o⟩ ⟨k,s,on,c,⟨sh,pr,si,st⟩,sum,tt⟩ with
     | false => rfl
     | true =>
      obtain⟨m1,m2,_⟩:=clTakes_parts hm
      have:=(frMay_iff.1 m1).k1
      have:=(frMay_iff.1 m1).k4
      simp only at *
      omega
    unfold clFeed at h
    rw [if_neg (by rw [ht]; decide)] at h
    simp only [Cli.mk.injEq] at h
    obtain⟨rfl,rfl,rfl⟩:=h
    refine clfeed_no hv hvt n o hk (hZq fun h => ?_)
    have:=h.lookC k hk
    rw [hno.1,hno.2] at this
    exact this

theorem clask_a {w:World} {v:Value} {t:List Row} (hv:Tab w v t) (n:Int)  :
  Calls Tryz.prog 69 #[.agg #[v,.int .i64 n,.bool false]] w fun e w' => e=.returned (.tuple #[.string ⟨([]:List UInt8).toArray⟩,.bool false])∧Below w.heap.size w w':=by
 obtain⟨ca,cc,rfl,-⟩:=hv.open'
 obtain⟨CB,HB⟩:=ent1 w (.cells #[.slice ca t.length cc,.int .i64 n,.bool false] 33)
 have VA:=hZq (hv.later HB.out)
 clear hv
 go_enter Tryz.func69,Tryz.ntmps69
 have CBo:=blk3 CB.out
 go_wp2_with fail
 clear CBo
 go_wp2_with fail
 go_ret2
 exact⟨rfl,HB.out⟩

theorem clask_b {w:World} {v:Value} {t:List Row} (hv:Tab w v t) (n:Int) (hs:Short t) (HC:Hid (clMay ⟨t,n,true⟩=false)) :
  Calls Tryz.prog 69 #[.agg #[v,.int .i64 n,.bool true]] w fun e w' => e=.returned (.tuple #[.string ⟨([]:List UInt8).toArray⟩,.bool false])∧Below w.heap.size w w':=by
 obtain⟨ca,cc,rfl,-⟩:=hv.open'
 obtain⟨CB,HB⟩:=ent1 w (.cells #[.slice ca t.length cc,.int .i64 n,.bool true] 33)
 have VA:=hZq (hv.later HB.out)
 clear hv
 go_enter Tryz.func69,Tryz.ntmps69
 have CBo:=blk3 CB.out
 go_wp2_with fail
 clear CBo
 refine (clmay_eq VA.out hs _ true HC).mono ?_
 rintro e w2 ⟨rfl,b2⟩
 replace CB:=hZq (upQ CB.out b2)
 replace VA:=hZq (VA.out.later b2)
 replace HB:=hZq (below2Z HB.out b2)
 clear b2
 go_wp2_with fail
 go_ret2
 exact⟨rfl,HB.out⟩

theorem clask_c {w:World} {v:Value} {t:List Row} (hv:Tab w v t) (n:Int) (hs:Short t) (hn:n≤1099511627776) (HC:Hid (clMay ⟨t,n,true⟩=true)) {l:List UInt8} (HE:Hid (frEnc ⟨4,n,false,[],⟨0,0,0,[]⟩,0,[]⟩=(l,0))) :
  Calls Tryz.prog 69 #[.agg #[v,.int .i64 n,.bool true]] w fun e w' => e=.returned (.tuple #[.string ⟨l.toArray⟩,.bool true])∧Below w.heap.size w w':=by
 have hmin:min n 1099511627776=n:=by omega
 clear hn
 obtain⟨ca,cc,rfl,-⟩:=hv.open'
 obtain⟨CB,HB⟩:=ent1 w (.cells #[.slice ca t.length cc,.int .i64 n,.bool true] 33)
 have VA:=hZq (hv.later HB.out)
 clear hv
 go_enter Tryz.func69,Tryz.ntmps69
 have CBo:=blk3 CB.out
 go_wp2_with fail
 clear CBo
 refine (clmay_eq VA.out hs _ true HC).mono ?_
 rintro e w2 ⟨rfl,b2⟩
 replace CB:=hZq (upQ CB.out b2)
 replace VA:=hZq (VA.out.later b2)
 replace HB:=hZq (below2Z HB.out b2)
 clear b2
 have CBo:=blk3 CB.out
 go_wp2_with fail
 clear CBo
 refine (frenc_any (OwnR.tab (ownR_nil _ 0)) (fun r hr => by simp at hr) 4 n false [] 0 0 0 [] 0 (by decide) (by decide) (by decide) HE).mono ?_
 rintro e w3 ⟨rfl,b3⟩
 replace CB:=hZq (upQ CB.out b3)
 replace VA:=hZq (VA.out.later b3)
 replace HB:=hZq (below2Z HB.out b3)
 clear b3
 go_wp2_with fail
 go_ret2
 exact⟨rfl,HB.out⟩

theorem clask_d {w:World} {v:Value} {t:List Row} (hv:Tab w v t) (hs:Short t) (HC:Hid (clMay ⟨t,1099511627777,true⟩=true)) {l:List UInt8} (HE:Hid (frEnc ⟨4,1099511627776,false,[],⟨0,0,0,[]⟩,0,[]⟩=(l,0))) :
  Calls Tryz.prog 69 #[.agg #[v,.int .i64 1099511627777,.bool true]] w fun e w' => e=.returned (.tuple #[.string ⟨l.toArray⟩,.bool true])∧Below w.heap.size w w':=by
 obtain⟨ca,cc,rfl,-⟩:=hv.open'
 obtain⟨CB,HB⟩:=ent1 w (.cells #[.slice ca t.length cc,.int .i64 1099511627777,.bool true] 33)
 have VA:=hZq (hv.later HB.out)
 clear hv
 go_enter Tryz.func69,Tryz.ntmps69
 have CBo:=blk3 CB.out
 go_wp2_with fail
 clear CBo
 refine (clmay_eq VA.out hs _ true HC).mono ?_
 rintro e w2 ⟨rfl,b2⟩
 replace CB:=hZq (upQ CB.out b2)
 replace VA:=hZq (VA.out.later b2)
 replace HB:=hZq (below2Z HB.out b2)
 clear b2
 have CBo:=blk3 CB.out
 go_wp2_with fail
 clear CBo
 refine (frenc_any (OwnR.tab (ownR_nil _ 0)) (fun r hr => by simp at hr) 4 1099511627776 false [] 0 0 0 [] 0 (by decide) (by decide) (by decide) HE).mono ?_
 rintro e w3 ⟨rfl,b3⟩
 replace CB:=hZq (upQ CB.out b3)
 replace VA:=hZq (VA.out.later b3)
 replace HB:=hZq (below2Z HB.out b3)
 clear b3
 go_wp2_with fail
 go_ret2
 exact⟨rfl,HB.out⟩

theorem clask_any {w:World} {v:Value} {t:List Row} (hv:Tab w v t) (n:Int) (o:Bool) (hs:Short t) {l:List UInt8} {r:Bool} (h:Hid (clAsk ⟨t,n,o⟩=(l,r))) :
  Calls Tryz.prog 69 #[.agg #[v,.int .i64 n,.bool o]] w fun e w' => e=.returned (.tuple #[.string ⟨l.toArray⟩,.bool r])∧Below w.heap.size w w':=by
 have h:=h.out
 unfold clAsk at h
 cases o with
 | false =>
  rw [if_neg (by simp)] at h
  simp only [Prod.mk.injEq] at h
  obtain⟨rfl,rfl⟩:=h
  exact clask_a hv n
 | true =>
  cases hc:clMay ⟨t,n,true⟩ with
  | false =>
   rw [if_neg (by simp [hc])] at h
   simp only [Prod.mk.injEq] at h
   obtain⟨rfl,rfl⟩:=h
   exact clask_b hv n hs (hZq hc)
  | true =>
   rw [if_pos (by simp [hc])] at h
   simp only [Prod.mk.injEq] at h
   obtain⟨rfl,rfl⟩:=h
   have he:=enc_mayP (clReq_may hc)
   by_cases hn:n≤1099511627776
   ·have e:clReq ⟨t,n,true⟩=⟨4,n,false,[],⟨0,0,0,[]⟩,0,[]⟩:=by unfold clReq; rw [if_pos hn]; rfl
    rw [e] at he ⊢
    exact clask_c hv n hs hn (hZq hc) (hZq he)
   ·have e:clReq ⟨t,n,true⟩=⟨4,1099511627776,false,[],⟨0,0,0,[]⟩,0,[]⟩:=by unfold clReq; rw [if_neg hn]; rfl
    rw [e] at he ⊢
    have h1:=(clMay_parts hc).2.1
    obtain rfl:n=1099511627777:=by simp only at h1; omega
    exact clask_d hv hs (hZq hc) (hZq he)
end
section
end
section
open Go.RowKit

def RT (w:World) (base:Nat) (v vc:Value) (t tc:List Row):Prop:=(v=vc∧t=tc)∨OwnR w base v t

theorem RT.tab {w:World} {b:Nat} {v vc:Value} {t tc:List Row} (h:RT w b v vc t tc) (h1:Tab w vc tc):Tab w v t:=by
 rcases h with ⟨rfl,rfl⟩ | h
 ·exact h1
 ·exact OwnR.tab h

theorem dec_errC {s:List UInt8} {f:Frm} {e:Nat} (h:frDec s=(f,e)) (he:e ≠ 0):f=⟨0,0,false,[],⟨0,0,0,[]⟩,0,[]⟩:=by
 rw [frDec_doc] at h
 unfold frDoc at h
 split at h
 ·simp only [Prod.mk.injEq] at h; exact h.1.symm
 ·split at h
  ·simp only [Prod.mk.injEq] at h; exact absurd h.2.symm he
  ·simp only [Prod.mk.injEq] at h; exact h.1.symm
end
section

structure Lnk where
 seq:Int
 q:Que
 b:Bkt
 sn:Bool
 dg:Int

def lnMay (c:Cfg) (l:Lnk):Bool:=pcOne c l.b && (decide (0≤l.seq) && (decide (l.seq≤1099511627776) && (quMay l.q c.room && (!l.q.la && (pcTime l.dg && (!l.sn || decide (l.q.l=[])))))))
def lnAsk (l:Lnk):Lnk:={ l with sn:=true,q:=⟨[],false⟩ }
def lnPush (c:Cfg) (l:Lnk) (x:Chg):Lnk:=if l.sn=true then l else if (quPush l.q x c.room).la=true then lnAsk l else { l with q:=quPush l.q x c.room }
def lnQuiet (l:Lnk):Bool:=!l.sn && quEmpty l.q

def lnTell (c:Cfg) (view:List Row) (now:Int) (l:Lnk):Option (Frm × Lnk) :=
 if l.sn=true then some (⟨3,0,false,[],Val.zero,0,view⟩,{ l with sn:=false,q:=⟨[],false⟩,dg:=now })
 else match l.q.l with
  | x :: r => some (⟨1,0,x.on,x.c,x.v,0,[]⟩,{ l with q:=⟨r,l.q.la⟩ })
  | [] => if now - l.dg < c.per then none else some (⟨2,0,false,[],Val.zero,diSum view,[]⟩,{ l with dg:=now })

def lnStep (c:Cfg) (view:List Row) (now:Int) (l:Lnk):Option (Frm × Lnk) :=
 if 1099511627776≤l.seq then none
 else match lnTell c view now l with
  | none => none
  | some (f,m) => if (pcTake c l.b now).2=true then some ({ f with s:=l.seq },{ m with b:=(pcTake c l.b now).1,seq:=l.seq+1 }) else none

def lnRun (c:Cfg) (view:List Row) (now:Int):Nat→Lnk→Lnk × List Frm
 | 0,l => (l,[])
 | n+1,l => match lnStep c view now l with
  | none => (l,[])
  | some (f,m) => ((lnRun c view now n m).1,f :: (lnRun c view now n m).2)

def lnEmit (c:Cfg) (l:Lnk) (view:List Row) (now:Int):Lnk × List Frm :=
 if (lnMay c l && (diMay view && pcTime now))=true then lnRun c view now 65 l else (l,[])

theorem lnMay_iff {c:Cfg} {l:Lnk}:lnMay c l=true ↔ pcOne c l.b=true∧0≤l.seq∧l.seq≤1099511627776∧quMay l.q c.room=true∧l.q.la=false∧pcTime l.dg=true∧(l.sn=true→l.q.l=[]):=by
 unfold lnMay
 simp only [Bool.and_eq_true,Bool.or_eq_true,Bool.not_eq_true',decide_eq_true_eq]
 refine ⟨fun ⟨h1,h2,h3,h4,h5,h6,h7⟩ => ⟨h1,h2,h3,h4,h5,h6,fun hs => ?_⟩,fun ⟨h1,h2,h3,h4,h5,h6,h7⟩ => ⟨h1,h2,h3,h4,h5,h6,?_⟩⟩
 ·rcases h7 with h7 | h7
  ·rw [hs] at h7; cases h7
  ·exact h7
 ·cases hs:l.sn
  ·exact .inl rfl
  ·exact .inr (h7 hs)

theorem take_yes {c:Cfg} {b:Bkt} {now:Int} (h:pcOne c b=true) (hn:pcTime now=true) (ht:(pcTake c b now).2=true) :
  pcOne c (pcTake c b now).1=true∧pcLev c (pcTake c b now).1 now=pcLev c b now - 1∧1≤pcLev c b now:=by
 have hg:=pcLev_ge (now:=now) h
 rw [pcTake_in h hn] at ht ⊢
 by_cases h0:pcLev c b now=0
 ·rw [if_pos h0] at ht; cases ht
 ·rw [if_neg h0] at ht ⊢
  obtain⟨m,t0,t1,a0,a1⟩:=pcOne_iff.1 h
  obtain⟨n0,n1⟩:=pcTime_iff.1 hn
  refine ⟨pcOne_iff.2 ⟨m,by simp only; omega,by simp only; omega,by simp only; omega,by simp only; omega⟩,?_,by omega⟩
  unfold pcLev
  simp only
  rw [if_pos (by omega)]

theorem take_no {c:Cfg} {b:Bkt} {now:Int} (h:pcOne c b=true) (hn:pcTime now=true) (ht:(pcTake c b now).2=false):pcLev c b now=0:=by
 rw [pcTake_in h hn] at ht
 by_cases h0:pcLev c b now=0
 ·exact h0
 ·rw [if_neg h0] at ht; cases ht

theorem quMay_tail {x:Chg} {r:List Chg} {room:Int} (h:quMay ⟨x :: r,false⟩ room=true):quOne x=true∧quMay ⟨r,false⟩ room=true:=by
 obtain⟨m1,m2,m3,m4⟩:=quMay_iff.1 h
 simp only [List.length_cons] at m1
 exact⟨m3 x (by simp),quMay_iff.2 ⟨by simp only; omega,(fun e => by cases e),fun y hy => m3 y (List.mem_cons_of_mem _ hy),quNo2_tail m4⟩⟩

theorem tell_may {c:Cfg} {view:List Row} {now:Int} {l m:Lnk} {f:Frm} (h:lnMay c l=true) (hv:diMay view=true) (hn:pcTime now=true) (ht:lnTell c view now l=some (f,m)) :
  lnMay c m=true∧m.b=l.b∧m.seq=l.seq∧1≤f.k∧f.k≤3∧frRest f=true:=by
 obtain⟨h1,h2,h3,h4,h5,h6,h7⟩:=lnMay_iff.1 h
 obtain⟨seq,⟨q,la⟩,b,sn,dg⟩:=l
 simp only at h1 h2 h3 h4 h5 h6 h7
 subst h5
 unfold lnTell at ht
 simp only at ht
 cases sn with
 | true =>
  rw [if_pos rfl] at ht
  cases ht
  have hq:q=[]:=h7 rfl
  subst hq
  refine ⟨lnMay_iff.2 ⟨h1,h2,h3,h4,rfl,hn,fun e => by cases e⟩,rfl,rfl,by show (1:Int)≤3; decide,by show (3:Int)≤3; decide,?_⟩
  show ((!false && (([]:List UInt8) == [] && vSame Val.zero Val.zero)) && (decide ((0:Nat)=0) && diMay view))=true
  rw [hv]
  rfl
 | false =>
  rw [if_neg (by decide)] at ht
  cases q with
  | cons x r =>
   simp only at ht
   cases ht
   obtain⟨o1,o2⟩:=quMay_tail h4
   refine ⟨lnMay_iff.2 ⟨h1,h2,h3,o2,rfl,h6,fun e => by cases e⟩,rfl,rfl,by show (1:Int)≤1; decide,by show (1:Int)≤3; decide,?_⟩
   unfold quOne at o1
   show (decide ((0:Nat)=0) && (decide (([]:List Row).length=0) && (idIs x.c && (if x.on=true then vaMay x.v else vSame x.v Val.zero))))=true
   rw [o1]
   rfl
  | nil =>
   simp only at ht
   split at ht
   ·cases ht
   ·cases ht
    refine ⟨lnMay_iff.2 ⟨h1,h2,h3,h4,rfl,hn,fun e => by cases e⟩,rfl,rfl,by show (1:Int)≤2; decide,by show (2:Int)≤3; decide,?_⟩
    rfl

theorem step_may {c:Cfg} {view:List Row} {now:Int} {l m:Lnk} {f:Frm} (h:lnMay c l=true) (hv:diMay view=true) (hn:pcTime now=true) (ht:lnStep c view now l=some (f,m)) :
  lnMay c m=true∧m.seq=l.seq+1∧f.s=l.seq∧frMay f=true∧f.k≤3∧pcLev c m.b now=pcLev c l.b now - 1∧1≤pcLev c l.b now:=by
 unfold lnStep at ht
 split at ht
 ·cases ht
 ·rename_i hs
  split at ht
  ·cases ht
  ·rename_i f0 m0 hT
   split at ht
   ·rename_i hk
    cases ht
    obtain⟨t1,t2,t3,t4,t5,t6⟩:=tell_may h hv hn hT
    obtain⟨a1,a2,a3,a4,a5,a6,a7⟩:=lnMay_iff.1 h
    obtain⟨b1,b2,b3,b4,b5,b6,b7⟩:=lnMay_iff.1 t1
    obtain⟨k1,k2,k3⟩:=take_yes a1 hn hk
    refine ⟨lnMay_iff.2 ⟨k1,by simp only; omega,by simp only; omega,b4,b5,b6,b7⟩,rfl,rfl,?_,t5,k2,k3⟩
    unfold frMay
    simp only [Bool.and_eq_true,decide_eq_true_eq]
    exact⟨⟨t4,by omega⟩,⟨a2,by omega⟩,t6⟩
   ·cases ht

theorem run_none {c:Cfg} {view:List Row} {now:Int} {l:Lnk} (h:lnStep c view now l=none) (n:Nat):lnRun c view now (n+1) l=(l,[]):=by
 show (match lnStep c view now l with
  | none => (l,[])
  | some (f,m) => ((lnRun c view now n m).1,f :: (lnRun c view now n m).2))=_
 rw [h]

theorem run_some {c:Cfg} {view:List Row} {now:Int} {l m:Lnk} {f:Frm} (h:lnStep c view now l=some (f,m)) (n:Nat):lnRun c view now (n+1) l=((lnRun c view now n m).1,f :: (lnRun c view now n m).2):=by
 show (match lnStep c view now l with
  | none => (l,[])
  | some (f,m) => ((lnRun c view now n m).1,f :: (lnRun c view now n m).2))=_
 rw [h]

theorem run_may {c:Cfg} {view:List Row} {now:Int} (hv:diMay view=true) (hn:pcTime now=true):∀ (n:Nat) (l:Lnk),lnMay c l=true →
  lnMay c (lnRun c view now n l).1=true∧(lnRun c view now n l).1.seq=l.seq+(lnRun c view now n l).2.length∧((lnRun c view now n l).2.length:Int)+pcLev c (lnRun c view now n l).1.b now=pcLev c l.b now ∧
  ∀ i,(hi:i < (lnRun c view now n l).2.length)→frMay ((lnRun c view now n l).2[i])=true∧((lnRun c view now n l).2[i]).s=l.seq+i∧((lnRun c view now n l).2[i]).k≤3
 | 0,l,h => ⟨h,by simp [lnRun],by simp [lnRun],fun i hi => by simp [lnRun] at hi⟩
 | n+1,l,h => by
  cases hs:lnStep c view now l with
  | none => rw [run_none hs]; exact⟨h,by simp,by simp,fun i hi => by simp at hi⟩
  | some p =>
   obtain⟨f,m⟩:=p
   rw [run_some hs]
   obtain⟨s1,s2,s3,s4,s5,s6,_⟩:=step_may h hv hn hs
   obtain⟨r1,r2,r3,r4⟩:=run_may hv hn n m s1
   refine ⟨r1,?_,?_,fun i hi => ?_⟩
   ·simp only [List.length_cons]; omega
   ·simp only [List.length_cons]; omega
   ·cases i with
    | zero => exact⟨s4,by simp only [List.getElem_cons_zero]; omega,s5⟩
    | succ i =>
     simp only [List.length_cons] at hi
     obtain⟨q1,q2,q3⟩:=r4 i (by omega)
     simp only [List.getElem_cons_succ]
     exact⟨q1,by omega,q3⟩
end
section

def lnHas (has:List Row) (f:Frm):List Row:=if f.k=3 then f.t else if f.k=1 then diSet has ⟨f.c,f.on,f.v⟩ else has

theorem tell_ways {c:Cfg} {view:List Row} {now:Int} {l m:Lnk} {f:Frm} (ht:lnTell c view now l=some (f,m)) :
  (l.sn=true∧f=⟨3,0,false,[],Val.zero,0,view⟩∧m={ l with sn:=false,q:=⟨[],false⟩,dg:=now }) ∨
  (l.sn=false∧∃ x r,l.q.l=x :: r∧f=⟨1,0,x.on,x.c,x.v,0,[]⟩∧m={ l with q:=⟨r,l.q.la⟩ }) ∨
  (l.sn=false∧l.q.l=[]∧c.per≤now - l.dg∧f=⟨2,0,false,[],Val.zero,diSum view,[]⟩∧m={ l with dg:=now }):=by
 unfold lnTell at ht
 cases hs:l.sn with
 | true =>
  rw [if_pos hs] at ht
  cases ht
  exact .inl ⟨rfl,rfl,rfl⟩
 | false =>
  rw [if_neg (by rw [hs]; decide)] at ht
  cases hq:l.q.l with
  | cons x r =>
   rw [hq] at ht
   simp only at ht
   cases ht
   exact .inr (.inl ⟨rfl,x,r,rfl,rfl,by rw [hs]⟩)
  | nil =>
   rw [hq] at ht
   simp only at ht
   split at ht
   ·cases ht
   ·cases ht
    exact .inr (.inr ⟨rfl,rfl,by omega,rfl,by rw [hs]⟩)

theorem tell_none {c:Cfg} {view:List Row} {now:Int} {l:Lnk} (ht:lnTell c view now l=none):l.sn=false∧l.q.l=[]∧now - l.dg < c.per:=by
 unfold lnTell at ht
 cases hs:l.sn with
 | true => rw [if_pos hs] at ht; cases ht
 | false =>
  rw [if_neg (by rw [hs]; decide)] at ht
  cases hq:l.q.l with
  | cons x r => rw [hq] at ht; simp only at ht; cases ht
  | nil =>
   rw [hq] at ht
   simp only at ht
   split at ht
   ·exact⟨rfl,rfl,by assumption⟩
   ·cases ht

theorem step_ways {c:Cfg} {view:List Row} {now:Int} {l m:Lnk} {f:Frm} (ht:lnStep c view now l=some (f,m)) :
  ∃ f0 m0,lnTell c view now l=some (f0,m0)∧f={ f0 with s:=l.seq }∧m={ m0 with b:=(pcTake c l.b now).1,seq:=l.seq+1 }∧(pcTake c l.b now).2=true∧l.seq < 1099511627776:=by
 unfold lnStep at ht
 split at ht
 ·cases ht
 ·split at ht
  ·cases ht
  ·rename_i f0 m0 hT
   split at ht
   ·rename_i hk
    cases ht
    exact⟨f0,m0,hT,rfl,rfl,hk,by omega⟩
   ·cases ht

theorem step_none {c:Cfg} {view:List Row} {now:Int} {l:Lnk} (h:lnStep c view now l=none) :
  1099511627776≤l.seq∨(pcTake c l.b now).2=false∨(l.sn=false∧l.q.l=[]∧now - l.dg < c.per):=by
 unfold lnStep at h
 split at h
 ·exact .inl (by assumption)
 ·split at h
  ·rename_i hT
   exact .inr (.inr (tell_none hT))
  ·split at h
   ·cases h
   ·rename_i hk
    exact .inr (.inl (by simpa using hk))

theorem run_nosnap {c:Cfg} {view:List Row} {now:Int}:∀ (n:Nat) (l:Lnk),l.sn=false→(lnRun c view now n l).1.sn=false∧∀ f ∈ (lnRun c view now n l).2,¬ f.k=3
 | 0,l,h => ⟨h,fun f hf => by simp [lnRun] at hf⟩
 | n+1,l,h => by
  cases hs:lnStep c view now l with
  | none => rw [run_none hs]; exact⟨h,fun f hf => by simp at hf⟩
  | some p =>
   obtain⟨f,m⟩:=p
   rw [run_some hs]
   obtain⟨f0,m0,hT,rfl,rfl,_,_⟩:=step_ways hs
   have hm:m0.sn=false∧¬ f0.k=3:=by
    rcases tell_ways hT with ⟨e,_⟩ | ⟨_,x,r,_,rfl,rfl⟩ | ⟨_,_,_,rfl,rfl⟩
    ·rw [h] at e; cases e
    ·exact⟨h,by show ¬ (1:Int)=3; decide⟩
    ·exact⟨h,by show ¬ (2:Int)=3; decide⟩
   obtain⟨r1,r2⟩:=run_nosnap n _ (show ({ m0 with b:=(pcTake c l.b now).1,seq:=l.seq+1 }:Lnk).sn=false from hm.1)
   refine ⟨r1,fun f hf => ?_⟩
   rcases List.mem_cons.1 hf with rfl | hf
   ·exact hm.2
   ·exact r2 f hf

theorem step_idle {c:Cfg} {view:List Row} {now:Int} {l:Lnk} (hs:l.sn=false) (hq:l.q.l=[]) (hd:now - l.dg < c.per):lnStep c view now l=none:=by
 cases h:lnStep c view now l with
 | none => rfl
 | some p =>
  obtain⟨f,m⟩:=p
  obtain⟨f0,m0,hT,_⟩:=step_ways h
  rcases tell_ways hT with ⟨e,_⟩ | ⟨_,x,r,e,_⟩ | ⟨_,_,e,_⟩
  ·rw [hs] at e; cases e
  ·rw [hq] at e; cases e
  ·omega

theorem ask_may {c:Cfg} {l:Lnk} (h:lnMay c l=true):lnMay c (lnAsk l)=true:=by
 obtain⟨h1,h2,h3,h4,h5,h6,h7⟩:=lnMay_iff.1 h
 obtain⟨m1,_⟩:=quMay_iff.1 h4
 exact lnMay_iff.2 ⟨h1,h2,h3,quMay_iff.2 ⟨by show ((0:Nat):Int)≤c.room; omega,fun _ => rfl,(fun x hx => by cases hx),List.nodup_nil⟩,rfl,h6,fun _ => rfl⟩

theorem run_asked {c:Cfg} {view:List Row} {now:Int} (hn:pcTime now=true) {l:Lnk} (h:lnMay c l=true) (hq:l.seq < 1099511627776) :
  (pcLev c l.b now=0→lnRun c view now 65 (lnAsk l)=(lnAsk l,[])) ∧
  (¬ pcLev c l.b now=0→lnRun c view now 65 (lnAsk l)=(⟨l.seq+1,⟨[],false⟩,(pcTake c l.b now).1,false,now⟩,[⟨3,l.seq,false,[],Val.zero,0,view⟩])):=by
 have ho:=(lnMay_iff.1 h).1
 have hp:=(pcMay_iff.1 (pcOne_iff.1 ho).1).2.2.2.2.2.2.1
 have hT:lnTell c view now (lnAsk l)=some (⟨3,0,false,[],Val.zero,0,view⟩,⟨l.seq,⟨[],false⟩,l.b,false,now⟩):=rfl
 have hS:lnStep c view now (lnAsk l)=if (pcTake c l.b now).2=true then some (⟨3,l.seq,false,[],Val.zero,0,view⟩,⟨l.seq+1,⟨[],false⟩,(pcTake c l.b now).1,false,now⟩) else none:=by
  unfold lnStep
  rw [if_neg (by show ¬ 1099511627776≤l.seq; omega),hT]
  rfl
 rw [pcTake_in ho hn] at hS ⊢
 refine ⟨fun h0 => ?_,fun h0 => ?_⟩
 ·rw [if_pos h0,if_neg (by simp)] at hS
  exact run_none hS 64
 ·rw [if_neg h0,if_pos rfl] at hS
  rw [if_neg h0,run_some hS 64]
  rw [run_none (step_idle rfl rfl (by show now - now < c.per; omega)) 63]
end
end Go.Proofs.YtmpigdokghngiaaGreat
