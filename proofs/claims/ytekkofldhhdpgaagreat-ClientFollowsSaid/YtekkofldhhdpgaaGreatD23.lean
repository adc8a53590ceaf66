/-
 TEXTS OF THE PROOF, one behind the other: CliCode, FraShort, CliRead.
-/
import Derived.Test.YtekkofldhhdpgaaGreatD10
import Derived.Test.YtekkofldhhdpgaaGreatD11
import Derived.Test.YtekkofldhhdpgaaGreatD22
import Derived.Test.YtekkofldhhdpgaaGreatD09
import Derived.Test.YtekkofldhhdpgaaGreatD07
import Derived.Test.YtekkofldhhdpgaaGreatD20

set_option maxHeartbeats 12800000
set_option maxRecDepth 100000

section

namespace Go.Proofs.YtekkofldhhdpgaaGreat
open Go.RowKit

theorem short_in {t:List Row} (h:diMay t=true):Short t:=fun r hr => by
 have h1:=(diMay_iff.1 h).2.1 r hr
 obtain⟨i,v⟩:=rowOk_parts h1
 have hi:=(idIs_parts i).2.1
 have hs:=(vaMay_parts v).2.2.2.2.2.2
 exact⟨by omega,by omega⟩

theorem clset_short {t:List Row} (h:Short t) {x:Chg} (hc:x.c.length≤4294967296) (hs:x.v.st.length≤4294967296):Short (diSet t x):=fun r hr => by
 rcases set_mem hr with h1 | ⟨_,rfl⟩
 ·exact h r h1
 ·exact⟨hc,hs⟩

theorem set_eqC {w:World} {v:Value} {t:List Row} (hv:Tab w v t) (hl:t.length≤1000) (c st:List UInt8) (on:Bool) (a b d:Int) :
  Calls Tryz.prog 134 #[v,.agg #[.string ⟨c.toArray⟩,.bool on,.int .i64 a,.int .i64 b,.int .i64 d,.string ⟨st.toArray⟩]] w fun e w' => ∃ u,e=.returned u∧OwnR w' w.heap.size u (diSet t ⟨c,on,⟨a,b,d,st⟩⟩)∧Below w.heap.size w w' :=
 set_any hv hl ⟨c,on,⟨a,b,d,st⟩⟩

theorem sum_eqC {w:World} {v:Value} {t:List Row} (hv:Tab w v t) (hs:Short t) {z:Nat} (h:Hid (diSum t=z)) :
  Calls Tryz.prog 135 #[v] w fun e w' => e=.returned (.int .u64 z)∧Below w.heap.size w w':=by
 have:=disum_any hv hs
 rwa [h.out] at this

theorem sequal_eqC {w:World} {v u:Value} {t s:List Row} (hv:Tab w v t) (hu:Tab w u s) {r:Bool} (h:Hid (tSame t s=r)) :
  Calls Tryz.prog 63 #[v,u] w fun e w' => e=.returned (.bool r)∧Below w.heap.size w w':=by
 have:=sequal_any hv hu
 rwa [h.out] at this

def CT (w:World) (base:Nat) (v vc vt:Value) (t tc tt:List Row):Prop:=(v=vc∧t=tc)∨(v=vt∧t=tt)∨OwnR w base v t

theorem clmay_a {w:World} {v:Value} {t:List Row} (hv:Tab w v t) (n:Int) (o:Bool) (h0:n < 0) :
  Calls Tryz.prog 21 #[.agg #[v,.int .i64 n,.bool o]] w fun e w' => e=.returned (.bool false)∧Below w.heap.size w w':=by
 have g1:decide (0≤n)=false:=by rw [decide_eq_false_iff_not]; omega
 clear h0
 obtain⟨ca,cc,rfl,-⟩:=hv.open'
 have b0:=bl_newZ w (.cells #[.slice ca t.length cc,.int .i64 n,.bool o] 24)
 have HB:=hZq b0
 have VA:=hZq (hv.later b0)
 have CB:=newQ w (.cells #[.slice ca t.length cc,.int .i64 n,.bool o] 24)
 replace CB:=hZq CB
 clear b0
 clear hv
 go_enter Tryz.func21,Tryz.ntmps21
 obtain⟨⟨CBc0,CBc1,CBc2⟩,⟨CBf0,CBf1,CBf2⟩⟩:=blk3 CB.out
 go_wp2_with fail
 clear CBc0 CBc1 CBc2 CBf0 CBf1 CBf2
 go_ret
 exact⟨rfl,HB.out⟩

theorem clmay_b {w:World} {v:Value} {t:List Row} (hv:Tab w v t) (n:Int) (o:Bool) (h0:0≤n) (h1:1099511627777 < n) :
  Calls Tryz.prog 21 #[.agg #[v,.int .i64 n,.bool o]] w fun e w' => e=.returned (.bool false)∧Below w.heap.size w w':=by
 have g1:decide (0≤n)=true:=by rw [decide_eq_true_eq]; omega
 have g2:decide (n≤1099511627777)=false:=by rw [decide_eq_false_iff_not]; omega
 clear h0 h1
 obtain⟨ca,cc,rfl,-⟩:=hv.open'
 have b0:=bl_newZ w (.cells #[.slice ca t.length cc,.int .i64 n,.bool o] 24)
 have HB:=hZq b0
 have VA:=hZq (hv.later b0)
 have CB:=newQ w (.cells #[.slice ca t.length cc,.int .i64 n,.bool o] 24)
 replace CB:=hZq CB
 clear b0
 clear hv
 go_enter Tryz.func21,Tryz.ntmps21
 obtain⟨⟨CBc0,CBc1,CBc2⟩,⟨CBf0,CBf1,CBf2⟩⟩:=blk3 CB.out
 go_wp2_with fail
 clear CBc0 CBc1 CBc2 CBf0 CBf1 CBf2
 go_ret
 exact⟨rfl,HB.out⟩

theorem clmay_c {w:World} {v:Value} {t:List Row} (hv:Tab w v t) (n:Int) (o:Bool) (h0:0≤n) (h1:n≤1099511627777) (hs:Short t) {r:Bool} (HR:Hid (diMay t=r)) :
  Calls Tryz.prog 21 #[.agg #[v,.int .i64 n,.bool o]] w fun e w' => e=.returned (.bool r)∧Below w.heap.size w w':=by
 have g1:decide (0≤n)=true:=by rw [decide_eq_true_eq]; omega
 have g2:decide (n≤1099511627777)=true:=by rw [decide_eq_true_eq]; omega
 clear h0 h1
 obtain⟨ca,cc,rfl,-⟩:=hv.open'
 have b0:=bl_newZ w (.cells #[.slice ca t.length cc,.int .i64 n,.bool o] 24)
 have HB:=hZq b0
 have VA:=hZq (hv.later b0)
 have CB:=newQ w (.cells #[.slice ca t.length cc,.int .i64 n,.bool o] 24)
 replace CB:=hZq CB
 clear b0
 clear hv
 go_enter Tryz.func21,Tryz.ntmps21
 obtain⟨⟨CBc0,CBc1,CBc2⟩,⟨CBf0,CBf1,CBf2⟩⟩:=blk3 CB.out
 go_wp2_with fail
 clear CBc0 CBc1 CBc2 CBf0 CBf1 CBf2
 refine (dimay_eq VA.out hs HR).mono ?_
 rintro e w2 ⟨rfl,b2⟩
 replace CB:=hZq (upQ CB.out b2)
 replace VA:=hZq (VA.out.later b2)
 replace HB:=hZq (below2Z HB.out b2)
 clear b2
 go_wp2_with fail
 go_ret
 exact⟨rfl,HB.out⟩

theorem clmay_eq {w:World} {v:Value} {t:List Row} (hv:Tab w v t) (hs:Short t) (n:Int) (o:Bool) {r:Bool} (h:Hid (clMay ⟨t,n,o⟩=r)) :
  Calls Tryz.prog 21 #[.agg #[v,.int .i64 n,.bool o]] w fun e w' => e=.returned (.bool r)∧Below w.heap.size w w':=by
 have h:=h.out
 unfold clMay at h
 simp only at h
 by_cases h0:n < 0
 ·rw [show decide (0≤n)=false by rw [decide_eq_false_iff_not]; omega] at h
  subst h
  exact clmay_a hv n o h0
 ·rw [show decide (0≤n)=true by rw [decide_eq_true_eq]; omega] at h
  by_cases h1:1099511627777 < n
  ·rw [show decide (n≤1099511627777)=false by rw [decide_eq_false_iff_not]; omega] at h
   subst h
   exact clmay_b hv n o (by omega) h1
  ·rw [show decide (n≤1099511627777)=true by rw [decide_eq_true_eq]; omega] at h
   exact clmay_c hv n o (by omega) (by omega) hs (hZq h)

theorem clsame_a {w:World} {v1 v2:Value} {t1 t2:List Row} (hv1:Tab w v1 t1) (hv2:Tab w v2 t2) (n1 n2:Int) (o1 o2:Bool) (h:¬ n1=n2) :
  Calls Tryz.prog 23 #[.agg #[v1,.int .i64 n1,.bool o1],.agg #[v2,.int .i64 n2,.bool o2]] w fun e w' => e=.returned (.bool false)∧Below w.heap.size w w':=by
 have g1:(n1 == n2)=false:=by rw [beq_eq_false_iff_ne]; exact h
 clear h
 obtain⟨va,ca,rfl,-⟩:=hv1.open'
 obtain⟨vb,cb,rfl,-⟩:=hv2.open'
 have b0:=bl_newZ w (.cells #[.slice va t1.length ca,.int .i64 n1,.bool o1] 24)
 have b1:=bl_newZ (w.alloc (.cells #[.slice va t1.length ca,.int .i64 n1,.bool o1] 24)) (.cells #[.slice vb t2.length cb,.int .i64 n2,.bool o2] 24)
 have HB:=hZq (below2Z b0 b1)
 have VA:=hZq ((hv1.later b0).later b1)
 have VB:=hZq ((hv2.later b0).later b1)
 have CA:=newQ w (.cells #[.slice va t1.length ca,.int .i64 n1,.bool o1] 24)
 replace CA:=upQ CA b1
 replace CA:=hZq CA
 have CB:=newQ (w.alloc (.cells #[.slice va t1.length ca,.int .i64 n1,.bool o1] 24)) (.cells #[.slice vb t2.length cb,.int .i64 n2,.bool o2] 24)
 rw [World.size_alloc] at CB
 replace CB:=hZq CB
 clear b0 b1
 clear hv1 hv2
 go_enter Tryz.func23,Tryz.ntmps23
 obtain⟨⟨CAc0,CAc1,CAc2⟩,⟨CAf0,CAf1,CAf2⟩⟩:=blk3 CA.out
 obtain⟨⟨CBc0,CBc1,CBc2⟩,⟨CBf0,CBf1,CBf2⟩⟩:=blk3 CB.out
 go_wp2_with fail
 clear CAc0 CAc1 CAc2 CAf0 CAf1 CAf2 CBc0 CBc1 CBc2 CBf0 CBf1 CBf2
 go_ret
 exact⟨rfl,HB.out⟩

theorem clsame_b {w:World} {v1 v2:Value} {t1 t2:List Row} (hv1:Tab w v1 t1) (hv2:Tab w v2 t2) (n1 n2:Int) (o1 o2:Bool) (h:n1=n2) (h2:¬ o1=o2) :
  Calls Tryz.prog 23 #[.agg #[v1,.int .i64 n1,.bool o1],.agg #[v2,.int .i64 n2,.bool o2]] w fun e w' => e=.returned (.bool false)∧Below w.heap.size w w':=by
 have g1:(n1 == n2)=true:=by rw [beq_iff_eq]; exact h
 clear h
 have g2:(o1 == o2)=false:=by rw [beq_eq_false_iff_ne]; exact h2
 clear h2
 obtain⟨va,ca,rfl,-⟩:=hv1.open'
 obtain⟨vb,cb,rfl,-⟩:=hv2.open'
 have b0:=bl_newZ w (.cells #[.slice va t1.length ca,.int .i64 n1,.bool o1] 24)
 have b1:=bl_newZ (w.alloc (.cells #[.slice va t1.length ca,.int .i64 n1,.bool o1] 24)) (.cells #[.slice vb t2.length cb,.int .i64 n2,.bool o2] 24)
 have HB:=hZq (below2Z b0 b1)
 have VA:=hZq ((hv1.later b0).later b1)
 have VB:=hZq ((hv2.later b0).later b1)
 have CA:=newQ w (.cells #[.slice va t1.length ca,.int .i64 n1,.bool o1] 24)
 replace CA:=upQ CA b1
 replace CA:=hZq CA
 have CB:=newQ (w.alloc (.cells #[.slice va t1.length ca,.int .i64 n1,.bool o1] 24)) (.cells #[.slice vb t2.length cb,.int .i64 n2,.bool o2] 24)
 rw [World.size_alloc] at CB
 replace CB:=hZq CB
 clear b0 b1
 clear hv1 hv2
 go_enter Tryz.func23,Tryz.ntmps23
 obtain⟨⟨CAc0,CAc1,CAc2⟩,⟨CAf0,CAf1,CAf2⟩⟩:=blk3 CA.out
 obtain⟨⟨CBc0,CBc1,CBc2⟩,⟨CBf0,CBf1,CBf2⟩⟩:=blk3 CB.out
 go_wp2_with fail
 clear CAc0 CAc1 CAc2 CAf0 CAf1 CAf2 CBc0 CBc1 CBc2 CBf0 CBf1 CBf2
 go_ret
 exact⟨rfl,HB.out⟩

theorem clsame_c {w:World} {v1 v2:Value} {t1 t2:List Row} (hv1:Tab w v1 t1) (hv2:Tab w v2 t2) (n1 n2:Int) (o1 o2:Bool) (h:n1=n2) (h2:o1=o2) {r:Bool} (HR:Hid (tSame t1 t2=r)) :
  Calls Tryz.prog 23 #[.agg #[v1,.int .i64 n1,.bool o1],.agg #[v2,.int .i64 n2,.bool o2]] w fun e w' => e=.returned (.bool r)∧Below w.heap.size w w':=by
 have g1:(n1 == n2)=true:=by rw [beq_iff_eq]; exact h
 clear h
 have g2:(o1 == o2)=true:=by rw [beq_iff_eq]; exact h2
 clear h2
 obtain⟨va,ca,rfl,-⟩:=hv1.open'
 obtain⟨vb,cb,rfl,-⟩:=hv2.open'
 have b0:=bl_newZ w (.cells #[.slice va t1.length ca,.int .i64 n1,.bool o1] 24)
 have b1:=bl_newZ (w.alloc (.cells #[.slice va t1.length ca,.int .i64 n1,.bool o1] 24)) (.cells #[.slice vb t2.length cb,.int .i64 n2,.bool o2] 24)
 have HB:=hZq (below2Z b0 b1)
 have VA:=hZq ((hv1.later b0).later b1)
 have VB:=hZq ((hv2.later b0).later b1)
 have CA:=newQ w (.cells #[.slice va t1.length ca,.int .i64 n1,.bool o1] 24)
 replace CA:=upQ CA b1
 replace CA:=hZq CA
 have CB:=newQ (w.alloc (.cells #[.slice va t1.length ca,.int .i64 n1,.bool o1] 24)) (.cells #[.slice vb t2.length cb,.int .i64 n2,.bool o2] 24)
 rw [World.size_alloc] at CB
 replace CB:=hZq CB
 clear b0 b1
 clear hv1 hv2
 go_enter Tryz.func23,Tryz.ntmps23
 obtain⟨⟨CAc0,CAc1,CAc2⟩,⟨CAf0,CAf1,CAf2⟩⟩:=blk3 CA.out
 obtain⟨⟨CBc0,CBc1,CBc2⟩,⟨CBf0,CBf1,CBf2⟩⟩:=blk3 CB.out
 go_wp2_with fail
 clear CAc0 CAc1 CAc2 CAf0 CAf1 CAf2 CBc0 CBc1 CBc2 CBf0 CBf1 CBf2
 refine (sequal_eqC VA.out VB.out HR).mono ?_
 rintro e w3 ⟨rfl,b3⟩
 replace CA:=hZq (upQ CA.out b3)
 replace CB:=hZq (upQ CB.out b3)
 replace VA:=hZq (VA.out.later b3)
 replace VB:=hZq (VB.out.later b3)
 replace HB:=hZq (below2Z HB.out b3)
 clear b3
 go_wp2_with fail
 go_ret
 exact⟨rfl,HB.out⟩

theorem clsame_eq {w:World} {v1 v2:Value} {t1 t2:List Row} (hv1:Tab w v1 t1) (hv2:Tab w v2 t2) (n1 n2:Int) (o1 o2:Bool) {r:Bool} (h:Hid (clSame ⟨t1,n1,o1⟩ ⟨t2,n2,o2⟩=r)) :
  Calls Tryz.prog 23 #[.agg #[v1,.int .i64 n1,.bool o1],.agg #[v2,.int .i64 n2,.bool o2]] w fun e w' => e=.returned (.bool r)∧Below w.heap.size w w':=by
 have h:=h.out
 unfold clSame at h
 simp only at h
 by_cases h1:n1=n2
 ·rw [show decide (n1=n2)=true from decide_eq_true h1] at h
  by_cases h2:o1=o2
  ·rw [show (o1 == o2)=true from beq_iff_eq.2 h2] at h
   exact clsame_c hv1 hv2 n1 n2 o1 o2 h1 h2 (hZq h)
  ·rw [show (o1 == o2)=false from beq_eq_false_iff_ne.2 h2] at h
   subst h
   exact clsame_b hv1 hv2 n1 n2 o1 o2 h1 h2
 ·rw [show decide (n1=n2)=false from decide_eq_false h1] at h
  subst h
  exact clsame_a hv1 hv2 n1 n2 o1 o2 h1

theorem clchg_a {w:World} {v vt:Value} {t:List Row} {k s sh pr si:Int} {on:Bool} {c st:List UInt8} {sum:Nat} {tt:List Row} (hv:Tab w v t) (hvt:Tab w vt tt) (n:Int) :
  Calls Tryz.prog 96 #[.agg #[v,.int .i64 n,.bool true],.agg #[.int .i64 k,.int .i64 s,.bool on,.string ⟨c.toArray⟩,.int .i64 sh,.int .i64 pr,.int .i64 si,.string ⟨st.toArray⟩,.int .u64 sum,vt]] w fun e w' => ∃ u,e=.returned (.agg #[u,.int .i64 n,.bool true])∧CT w' w.heap.size u v vt t t tt∧Below w.heap.size w w':=by
 obtain⟨ca,cc,rfl,-⟩:=hv.open'
 obtain⟨ta,tc,rfl,-⟩:=hvt.open'
 have b0:=bl_newZ w (.cells #[.slice ca t.length cc,.int .i64 n,.bool true] 24)
 have b1:=bl_newZ (w.alloc (.cells #[.slice ca t.length cc,.int .i64 n,.bool true] 24)) (.cells #[.int .i64 k,.int .i64 s,.bool on,.string ⟨c.toArray⟩,.int .i64 sh,.int .i64 pr,.int .i64 si,.string ⟨st.toArray⟩,.int .u64 sum,.slice ta tt.length tc] 29)
 have b2:=bl_newZ ((w.alloc (.cells #[.slice ca t.length cc,.int .i64 n,.bool true] 24)).alloc (.cells #[.int .i64 k,.int .i64 s,.bool on,.string ⟨c.toArray⟩,.int .i64 sh,.int .i64 pr,.int .i64 si,.string ⟨st.toArray⟩,.int .u64 sum,.slice ta tt.length tc] 29)) (.cells #[.slice none 0 0,.int .i64 0,.bool false] 24)
 have HB:=hZq (below2Z (below2Z b0 b1) b2)
 have CB:=newQ w (.cells #[.slice ca t.length cc,.int .i64 n,.bool true] 24)
 replace CB:=upQ CB b1
 replace CB:=upQ CB b2
 replace CB:=hZq CB
 have FB:=newQ (w.alloc (.cells #[.slice ca t.length cc,.int .i64 n,.bool true] 24)) (.cells #[.int .i64 k,.int .i64 s,.bool on,.string ⟨c.toArray⟩,.int .i64 sh,.int .i64 pr,.int .i64 si,.string ⟨st.toArray⟩,.int .u64 sum,.slice ta tt.length tc] 29)
 rw [World.size_alloc] at FB
 replace FB:=upQ FB b2
 replace FB:=hZq FB
 have RB:=newQ ((w.alloc (.cells #[.slice ca t.length cc,.int .i64 n,.bool true] 24)).alloc (.cells #[.int .i64 k,.int .i64 s,.bool on,.string ⟨c.toArray⟩,.int .i64 sh,.int .i64 pr,.int .i64 si,.string ⟨st.toArray⟩,.int .u64 sum,.slice ta tt.length tc] 29)) (.cells #[.slice none 0 0,.int .i64 0,.bool false] 24)
 rw [World.size_alloc,World.size_alloc] at RB
 replace RB:=hZq RB
 clear b0 b1 b2
 obtain⟨⟨CBc0,CBc1,CBc2⟩,⟨CBf0,CBf1,CBf2⟩⟩:=blk3 CB.out
 obtain⟨⟨RBc0,RBc1,RBc2⟩,⟨RBf0,RBf1,RBf2⟩⟩:=blk3 RB.out
 go_enter Tryz.func96,Tryz.ntmps96
 go_wp2_with fail
 refine bodyPost_ret (v:=.agg #[.slice ca t.length cc,.int .i64 n,.bool true]) (by simp [results,Tryz.results96,go_sem]) rfl ⟨_,rfl,.inl ⟨rfl,rfl⟩,(((Below.refl _ _).alloc (Nat.le_refl _) _).alloc (by simp) _).alloc (by simp; omega) _⟩

theorem clchg_b {w:World} {v vt:Value} {t:List Row} {k s sh pr si:Int} {on:Bool} {c st:List UInt8} {sum:Nat} {tt:List Row} (hv:Tab w v t) (hvt:Tab w vt tt) (n:Int) (hl:t.length≤1000) (hsh:Short (diSet t ⟨c,on,⟨sh,pr,si,st⟩⟩)) (HM:Hid (diMay (diSet t ⟨c,on,⟨sh,pr,si,st⟩⟩)=false)) :
  Calls Tryz.prog 96 #[.agg #[v,.int .i64 n,.bool false],.agg #[.int .i64 k,.int .i64 s,.bool on,.string ⟨c.toArray⟩,.int .i64 sh,.int .i64 pr,.int .i64 si,.string ⟨st.toArray⟩,.int .u64 sum,vt]] w fun e w' => ∃ u,e=.returned (.agg #[u,.int .i64 n,.bool true])∧CT w' w.heap.size u v vt t t tt∧Below w.heap.size w w':=by
 obtain⟨ca,cc,rfl,-⟩:=hv.open'
 obtain⟨ta,tc,rfl,-⟩:=hvt.open'
 have b0:=bl_newZ w (.cells #[.slice ca t.length cc,.int .i64 n,.bool false] 24)
 have b1:=bl_newZ (w.alloc (.cells #[.slice ca t.length cc,.int .i64 n,.bool false] 24)) (.cells #[.int .i64 k,.int .i64 s,.bool on,.string ⟨c.toArray⟩,.int .i64 sh,.int .i64 pr,.int .i64 si,.string ⟨st.toArray⟩,.int .u64 sum,.slice ta tt.length tc] 29)
 have b2:=bl_newZ ((w.alloc (.cells #[.slice ca t.length cc,.int .i64 n,.bool false] 24)).alloc (.cells #[.int .i64 k,.int .i64 s,.bool on,.string ⟨c.toArray⟩,.int .i64 sh,.int .i64 pr,.int .i64 si,.string ⟨st.toArray⟩,.int .u64 sum,.slice ta tt.length tc] 29)) (.cells #[.slice none 0 0,.int .i64 0,.bool false] 24)
 have HB:=hZq (below2Z (below2Z b0 b1) b2)
 have VA:=hZq (((hv.later b0).later b1).later b2)
 have CB:=newQ w (.cells #[.slice ca t.length cc,.int .i64 n,.bool false] 24)
 replace CB:=upQ CB b1
 replace CB:=upQ CB b2
 replace CB:=hZq CB
 have FB:=newQ (w.alloc (.cells #[.slice ca t.length cc,.int .i64 n,.bool false] 24)) (.cells #[.int .i64 k,.int .i64 s,.bool on,.string ⟨c.toArray⟩,.int .i64 sh,.int .i64 pr,.int .i64 si,.string ⟨st.toArray⟩,.int .u64 sum,.slice ta tt.length tc] 29)
 rw [World.size_alloc] at FB
 replace FB:=upQ FB b2
 replace FB:=hZq FB
 have RB:=newQ ((w.alloc (.cells #[.slice ca t.length cc,.int .i64 n,.bool false] 24)).alloc (.cells #[.int .i64 k,.int .i64 s,.bool on,.string ⟨c.toArray⟩,.int .i64 sh,.int .i64 pr,.int .i64 si,.string ⟨st.toArray⟩,.int .u64 sum,.slice ta tt.length tc] 29)) (.cells #[.slice none 0 0,.int .i64 0,.bool false] 24)
 rw [World.size_alloc,World.size_alloc] at RB
 replace RB:=hZq RB
 clear b0 b1 b2
 clear hvt
 obtain⟨⟨CBc0,CBc1,CBc2⟩,⟨CBf0,CBf1,CBf2⟩⟩:=blk3 CB.out
 obtain⟨⟨FBc0,FBc1,FBc2,FBc3,FBc4,FBc5,FBc6,FBc7,FBc8,FBc9⟩,⟨FBf0,FBf1,FBf2,FBf3,FBf4,FBf5,FBf6,FBf7,FBf8,FBf9⟩⟩:=blk10 FB.out
 go_enter Tryz.func96,Tryz.ntmps96
 go_wp2_with fail
 clear CBc0 CBc1 CBc2 CBf0 CBf1 CBf2 FBc0 FBc1 FBc2 FBc3 FBc4 FBc5 FBc6 FBc7 FBc8 FBc9 FBf0 FBf1 FBf2 FBf3 FBf4 FBf5 FBf6 FBf7 FBf8 FBf9
 refine (set_eqC VA.out hl c st on sh pr si).mono ?_
 rintro e w4 ⟨u4,rfl,hu4,b4⟩
 replace CB:=hZq (upQ CB.out b4)
 replace FB:=hZq (upQ FB.out b4)
 replace RB:=hZq (upQ RB.out b4)
 replace VA:=hZq (VA.out.later b4)
 replace HB:=hZq (below2Z HB.out b4)
 obtain⟨ua,uc,rfl,-⟩:=Tab.open' (OwnR.tab hu4)
 have U:=hZq (OwnR.mono hu4 (show w.heap.size+1+1+1≤_ by simp only [World.size_alloc]; omega))
 clear hu4 VA
 clear b4
 go_wp2_with fail
 refine (dimay_eq (OwnR.tab U.out) hsh HM).mono ?_
 rintro e w5 ⟨rfl,b5⟩
 replace CB:=hZq (upQ CB.out b5)
 replace FB:=hZq (upQ FB.out b5)
 replace RB:=hZq (upQ RB.out b5)
 replace U:=hZq (OwnR.later U.out b5)
 replace HB:=hZq (below2Z HB.out b5)
 clear b5
 obtain⟨⟨CBc0,CBc1,CBc2⟩,⟨CBf0,CBf1,CBf2⟩⟩:=blk3 CB.out
 go_upto_region 6 with fail
 clear CBc0 CBc1 CBc2 CBf0 CBf1 CBf2
 have CBz:Hid ((w5.setCell ⟨w.heap.size,2,none⟩ (.bool true)).heap[w.heap.size]?=some (.cells #[.slice ca t.length cc,.int .i64 n,.bool true] 24 (0,0))):=hZq (heap_setCell_same w5 w.heap.size 2 _ _ (.bool true) CB.out)
 have FBz:Hid ((w5.setCell ⟨w.heap.size,2,none⟩ (.bool true)).heap[w.heap.size+1]?=some (.cells #[.int .i64 k,.int .i64 s,.bool on,.string ⟨c.toArray⟩,.int .i64 sh,.int .i64 pr,.int .i64 si,.string ⟨st.toArray⟩,.int .u64 sum,.slice ta tt.length tc] 29 (0,0))):=hZq ((Below.heap_setCell _ _ _ (w.heap.size+1) (show ¬ w.heap.size+1=w.heap.size by omega)).trans FB.out)
 have RBz:Hid ((w5.setCell ⟨w.heap.size,2,none⟩ (.bool true)).heap[w.heap.size+1+1]?=some (.cells #[.slice none 0 0,.int .i64 0,.bool false] 24 (0,0))):=hZq ((Below.heap_setCell _ _ _ (w.heap.size+1+1) (show ¬ w.heap.size+1+1=w.heap.size by omega)).trans RB.out)
 have HBz:Hid (Below w.heap.size w (w5.setCell ⟨w.heap.size,2,none⟩ (.bool true))):=hZq (HB.out.setCell (show w.heap.size≤w.heap.size by omega) _)
 have Uz:=hZq (OwnR.setCell (a:=⟨w.heap.size,2,none⟩) U.out (show w.heap.size < w.heap.size+1+1+1 by omega) (.bool true))
 clear HB CB FB RB U
 generalize w5.setCell ⟨w.heap.size,2,none⟩ (.bool true)=w6 at CBz FBz RBz Uz HBz ⊢
 have CB:=CBz
 clear CBz
 have FB:=FBz
 clear FBz
 have RB:=RBz
 clear RBz
 have U:=Uz
 clear Uz
 have HB:=HBz
 clear HBz
 obtain⟨⟨CBc0,CBc1,CBc2⟩,⟨CBf0,CBf1,CBf2⟩⟩:=blk3 CB.out
 obtain⟨⟨RBc0,RBc1,RBc2⟩,⟨RBf0,RBf1,RBf2⟩⟩:=blk3 RB.out
 go_wp2_with fail
 clear CBc0 CBc1 CBc2 CBf0 CBf1 CBf2 RBc0 RBc1 RBc2 RBf0 RBf1 RBf2
 have hz:=stN3_heap RB.out (.slice ca t.length cc) (.int .i64 n) (.bool true)
 have hle:w.heap.size≤w.heap.size+1+1:=by omega
 obtain⟨⟨z0,z1,z2⟩,-⟩:=blk3 hz
 unfold stN3 at z0 z1 z2
 refine bodyPost_ret (v:=.agg #[.slice ca t.length cc,.int .i64 n,.bool true]) (by simp [results,Tryz.results96,go_sem,z0,z1,z2]) rfl ?_
 exact⟨_,rfl,.inl ⟨rfl,rfl⟩,((HB.out.setCell hle _).setCell hle _).setCell hle _⟩

theorem clchg_c {w:World} {v vt:Value} {t:List Row} {k s sh pr si:Int} {on:Bool} {c st:List UInt8} {sum:Nat} {tt:List Row} (hv:Tab w v t) (hvt:Tab w vt tt) (n:Int) (hl:t.length≤1000) (hsh:Short (diSet t ⟨c,on,⟨sh,pr,si,st⟩⟩)) (HM:Hid (diMay (diSet t ⟨c,on,⟨sh,pr,si,st⟩⟩)=true)) :
  Calls Tryz.prog 96 #[.agg #[v,.int .i64 n,.bool false],.agg #[.int .i64 k,.int .i64 s,.bool on,.string ⟨c.toArray⟩,.int .i64 sh,.int .i64 pr,.int .i64 si,.string ⟨st.toArray⟩,.int .u64 sum,vt]] w fun e w' => ∃ u,e=.returned (.agg #[u,.int .i64 n,.bool false])∧CT w' w.heap.size u v vt (diSet t ⟨c,on,⟨sh,pr,si,st⟩⟩) t tt∧Below w.heap.size w w':=by
 obtain⟨ca,cc,rfl,-⟩:=hv.open'
 obtain⟨ta,tc,rfl,-⟩:=hvt.open'
 have b0:=bl_newZ w (.cells #[.slice ca t.length cc,.int .i64 n,.bool false] 24)
 have b1:=bl_newZ (w.alloc (.cells #[.slice ca t.length cc,.int .i64 n,.bool false] 24)) (.cells #[.int .i64 k,.int .i64 s,.bool on,.string ⟨c.toArray⟩,.int .i64 sh,.int .i64 pr,.int .i64 si,.string ⟨st.toArray⟩,.int .u64 sum,.slice ta tt.length tc] 29)
 have b2:=bl_newZ ((w.alloc (.cells #[.slice ca t.length cc,.int .i64 n,.bool false] 24)).alloc (.cells #[.int .i64 k,.int .i64 s,.bool on,.string ⟨c.toArray⟩,.int .i64 sh,.int .i64 pr,.int .i64 si,.string ⟨st.toArray⟩,.int .u64 sum,.slice ta tt.length tc] 29)) (.cells #[.slice none 0 0,.int .i64 0,.bool false] 24)
 have HB:=hZq (below2Z (below2Z b0 b1) b2)
 have VA:=hZq (((hv.later b0).later b1).later b2)
 have CB:=newQ w (.cells #[.slice ca t.length cc,.int .i64 n,.bool false] 24)
 replace CB:=upQ CB b1
 replace CB:=upQ CB b2
 replace CB:=hZq CB
 have FB:=newQ (w.alloc (.cells #[.slice ca t.length cc,.int .i64 n,.bool false] 24)) (.cells #[.int .i64 k,.int .i64 s,.bool on,.string ⟨c.toArray⟩,.int .i64 sh,.int .i64 pr,.int .i64 si,.string ⟨st.toArray⟩,.int .u64 sum,.slice ta tt.length tc] 29)
 rw [World.size_alloc] at FB
 replace FB:=upQ FB b2
 replace FB:=hZq FB
 have RB:=newQ ((w.alloc (.cells #[.slice ca t.length cc,.int .i64 n,.bool false] 24)).alloc (.cells #[.int .i64 k,.int .i64 s,.bool on,.string ⟨c.toArray⟩,.int .i64 sh,.int .i64 pr,.int .i64 si,.string ⟨st.toArray⟩,.int .u64 sum,.slice ta tt.length tc] 29)) (.cells #[.slice none 0 0,.int .i64 0,.bool false] 24)
 rw [World.size_alloc,World.size_alloc] at RB
 replace RB:=hZq RB
 clear b0 b1 b2
 clear hvt
 obtain⟨⟨CBc0,CBc1,CBc2⟩,⟨CBf0,CBf1,CBf2⟩⟩:=blk3 CB.out
 obtain⟨⟨FBc0,FBc1,FBc2,FBc3,FBc4,FBc5,FBc6,FBc7,FBc8,FBc9⟩,⟨FBf0,FBf1,FBf2,FBf3,FBf4,FBf5,FBf6,FBf7,FBf8,FBf9⟩⟩:=blk10 FB.out
 go_enter Tryz.func96,Tryz.ntmps96
 go_wp2_with fail
 clear CBc0 CBc1 CBc2 CBf0 CBf1 CBf2 FBc0 FBc1 FBc2 FBc3 FBc4 FBc5 FBc6 FBc7 FBc8 FBc9 FBf0 FBf1 FBf2 FBf3 FBf4 FBf5 FBf6 FBf7 FBf8 FBf9
 refine (set_eqC VA.out hl c st on sh pr si).mono ?_
 rintro e w4 ⟨u4,rfl,hu4,b4⟩
 replace CB:=hZq (upQ CB.out b4)
 replace FB:=hZq (upQ FB.out b4)
 replace RB:=hZq (upQ RB.out b4)
 replace VA:=hZq (VA.out.later b4)
 replace HB:=hZq (below2Z HB.out b4)
 obtain⟨ua,uc,rfl,-⟩:=Tab.open' (OwnR.tab hu4)
 have U:=hZq (OwnR.mono hu4 (show w.heap.size+1+1+1≤_ by simp only [World.size_alloc]; omega))
 clear hu4 VA
 clear b4
 go_wp2_with fail
 refine (dimay_eq (OwnR.tab U.out) hsh HM).mono ?_
 rintro e w5 ⟨rfl,b5⟩
 replace CB:=hZq (upQ CB.out b5)
 replace FB:=hZq (upQ FB.out b5)
 replace RB:=hZq (upQ RB.out b5)
 replace U:=hZq (OwnR.later U.out b5)
 replace HB:=hZq (below2Z HB.out b5)
 clear b5
 obtain⟨⟨CBc0,CBc1,CBc2⟩,⟨CBf0,CBf1,CBf2⟩⟩:=blk3 CB.out
 go_upto_region 8 with fail
 clear CBc0 CBc1 CBc2 CBf0 CBf1 CBf2
 have CBz:Hid ((w5.setCell ⟨w.heap.size,0,none⟩ (.slice ua (diSet t ⟨c,on,⟨sh,pr,si,st⟩⟩).length uc)).heap[w.heap.size]?=some (.cells #[.slice ua (diSet t ⟨c,on,⟨sh,pr,si,st⟩⟩).length uc,.int .i64 n,.bool false] 24 (0,0))):=hZq (heap_setCell_same w5 w.heap.size 0 _ _ (.slice ua (diSet t ⟨c,on,⟨sh,pr,si,st⟩⟩).length uc) CB.out)
 have FBz:Hid ((w5.setCell ⟨w.heap.size,0,none⟩ (.slice ua (diSet t ⟨c,on,⟨sh,pr,si,st⟩⟩).length uc)).heap[w.heap.size+1]?=some (.cells #[.int .i64 k,.int .i64 s,.bool on,.string ⟨c.toArray⟩,.int .i64 sh,.int .i64 pr,.int .i64 si,.string ⟨st.toArray⟩,.int .u64 sum,.slice ta tt.length tc] 29 (0,0))):=hZq ((Below.heap_setCell _ _ _ (w.heap.size+1) (show ¬ w.heap.size+1=w.heap.size by omega)).trans FB.out)
 have RBz:Hid ((w5.setCell ⟨w.heap.size,0,none⟩ (.slice ua (diSet t ⟨c,on,⟨sh,pr,si,st⟩⟩).length uc)).heap[w.heap.size+1+1]?=some (.cells #[.slice none 0 0,.int .i64 0,.bool false] 24 (0,0))):=hZq ((Below.heap_setCell _ _ _ (w.heap.size+1+1) (show ¬ w.heap.size+1+1=w.heap.size by omega)).trans RB.out)
 have HBz:Hid (Below w.heap.size w (w5.setCell ⟨w.heap.size,0,none⟩ (.slice ua (diSet t ⟨c,on,⟨sh,pr,si,st⟩⟩).length uc))):=hZq (HB.out.setCell (show w.heap.size≤w.heap.size by omega) _)
 have Uz:=hZq (OwnR.setCell (a:=⟨w.heap.size,0,none⟩) U.out (show w.heap.size < w.heap.size+1+1+1 by omega) (.slice ua (diSet t ⟨c,on,⟨sh,pr,si,st⟩⟩).length uc))
 clear HB CB FB RB U
 generalize w5.setCell ⟨w.heap.size,0,none⟩ (.slice ua (diSet t ⟨c,on,⟨sh,pr,si,st⟩⟩).length uc)=w6 at CBz FBz RBz Uz HBz ⊢
 have CB:=CBz
 clear CBz
 have FB:=FBz
 clear FBz
 have RB:=RBz
 clear RBz
 have U:=Uz
 clear Uz
 have HB:=HBz
 clear HBz
 obtain⟨⟨CBc0,CBc1,CBc2⟩,⟨CBf0,CBf1,CBf2⟩⟩:=blk3 CB.out
 obtain⟨⟨RBc0,RBc1,RBc2⟩,⟨RBf0,RBf1,RBf2⟩⟩:=blk3 RB.out
 go_wp2_with fail
 clear CBc0 CBc1 CBc2 CBf0 CBf1 CBf2 RBc0 RBc1 RBc2 RBf0 RBf1 RBf2
 have hz:=stN3_heap RB.out (.slice ua (diSet t ⟨c,on,⟨sh,pr,si,st⟩⟩).length uc) (.int .i64 n) (.bool false)
 have hle:w.heap.size≤w.heap.size+1+1:=by omega
 obtain⟨⟨z0,z1,z2⟩,-⟩:=blk3 hz
 unfold stN3 at z0 z1 z2
 refine bodyPost_ret (v:=.agg #[.slice ua (diSet t ⟨c,on,⟨sh,pr,si,st⟩⟩).length uc,.int .i64 n,.bool false]) (by simp [results,Tryz.results96,go_sem,z0,z1,z2]) rfl ?_
 have hlt:w.heap.size+1+1 < w.heap.size+1+1+1:=Nat.lt_succ_self _
 exact⟨_,rfl,.inr (.inr (OwnR.mono (((U.out.setCell hlt _).setCell hlt _).setCell hlt _) (by omega))),((HB.out.setCell hle _).setCell hle _).setCell hle _⟩

theorem clrep_any {w:World} {v vt:Value} {t:List Row} {k s sh pr si:Int} {on:Bool} {c st:List UInt8} {sum:Nat} {tt:List Row} (hv:Tab w v t) (hvt:Tab w vt tt) (n:Int) (o:Bool) (hl:tt.length≤1000) :
  Calls Tryz.prog 98 #[.agg #[v,.int .i64 n,.bool o],.agg #[.int .i64 k,.int .i64 s,.bool on,.string ⟨c.toArray⟩,.int .i64 sh,.int .i64 pr,.int .i64 si,.string ⟨st.toArray⟩,.int .u64 sum,vt]] w fun e w' => ∃ u,e=.returned (.agg #[u,.int .i64 n,.bool false])∧CT w' w.heap.size u v vt tt t tt∧Below w.heap.size w w':=by
 obtain⟨ca,cc,rfl,-⟩:=hv.open'
 obtain⟨ta,tc,rfl,-⟩:=hvt.open'
 have b0:=bl_newZ w (.cells #[.slice ca t.length cc,.int .i64 n,.bool o] 24)
 have b1:=bl_newZ (w.alloc (.cells #[.slice ca t.length cc,.int .i64 n,.bool o] 24)) (.cells #[.int .i64 k,.int .i64 s,.bool on,.string ⟨c.toArray⟩,.int .i64 sh,.int .i64 pr,.int .i64 si,.string ⟨st.toArray⟩,.int .u64 sum,.slice ta tt.length tc] 29)
 have b2:=bl_newZ ((w.alloc (.cells #[.slice ca t.length cc,.int .i64 n,.bool o] 24)).alloc (.cells #[.int .i64 k,.int .i64 s,.bool on,.string ⟨c.toArray⟩,.int .i64 sh,.int .i64 pr,.int .i64 si,.string ⟨st.toArray⟩,.int .u64 sum,.slice ta tt.length tc] 29)) (.cells #[.slice none 0 0,.int .i64 0,.bool false] 24)
 have HB:=hZq (below2Z (below2Z b0 b1) b2)
 have VT:=hZq (((hvt.later b0).later b1).later b2)
 have CB:=newQ w (.cells #[.slice ca t.length cc,.int .i64 n,.bool o] 24)
 replace CB:=upQ CB b1
 replace CB:=upQ CB b2
 replace CB:=hZq CB
 have FB:=newQ (w.alloc (.cells #[.slice ca t.length cc,.int .i64 n,.bool o] 24)) (.cells #[.int .i64 k,.int .i64 s,.bool on,.string ⟨c.toArray⟩,.int .i64 sh,.int .i64 pr,.int .i64 si,.string ⟨st.toArray⟩,.int .u64 sum,.slice ta tt.length tc] 29)
 rw [World.size_alloc] at FB
 replace FB:=upQ FB b2
 replace FB:=hZq FB
 have RB:=newQ ((w.alloc (.cells #[.slice ca t.length cc,.int .i64 n,.bool o] 24)).alloc (.cells #[.int .i64 k,.int .i64 s,.bool on,.string ⟨c.toArray⟩,.int .i64 sh,.int .i64 pr,.int .i64 si,.string ⟨st.toArray⟩,.int .u64 sum,.slice ta tt.length tc] 29)) (.cells #[.slice none 0 0,.int .i64 0,.bool false] 24)
 rw [World.size_alloc,World.size_alloc] at RB
 replace RB:=hZq RB
 clear b0 b1 b2
 clear hv
 obtain⟨⟨FBc0,FBc1,FBc2,FBc3,FBc4,FBc5,FBc6,FBc7,FBc8,FBc9⟩,⟨FBf0,FBf1,FBf2,FBf3,FBf4,FBf5,FBf6,FBf7,FBf8,FBf9⟩⟩:=blk10 FB.out
 go_enter Tryz.func98,Tryz.ntmps98
 go_wp2_with fail
 clear FBc0 FBc1 FBc2 FBc3 FBc4 FBc5 FBc6 FBc7 FBc8 FBc9 FBf0 FBf1 FBf2 FBf3 FBf4 FBf5 FBf6 FBf7 FBf8 FBf9
 refine (clone_any VT.out (by omega)).mono ?_
 rintro e w4 ⟨u4,rfl,hu4,b4⟩
 replace CB:=hZq (upQ CB.out b4)
 replace FB:=hZq (upQ FB.out b4)
 replace RB:=hZq (upQ RB.out b4)
 replace VT:=hZq (VT.out.later b4)
 replace HB:=hZq (below2Z HB.out b4)
 obtain⟨ua,uc,rfl,-⟩:=Tab.open' (OwnR.tab hu4)
 have U:=hZq (OwnR.mono hu4 (show w.heap.size+1+1+1≤_ by simp only [World.size_alloc]; omega))
 clear hu4 VT
 clear b4
 obtain⟨⟨CBc0,CBc1,CBc2⟩,⟨CBf0,CBf1,CBf2⟩⟩:=blk3 CB.out
 go_upto_region 2 with fail
 clear CBc0 CBc1 CBc2 CBf0 CBf1 CBf2
 have CBz:Hid ((w4.setCell ⟨w.heap.size,0,none⟩ (.slice ua tt.length uc)).heap[w.heap.size]?=some (.cells #[.slice ua tt.length uc,.int .i64 n,.bool o] 24 (0,0))):=hZq (heap_setCell_same w4 w.heap.size 0 _ _ (.slice ua tt.length uc) CB.out)
 have FBz:Hid ((w4.setCell ⟨w.heap.size,0,none⟩ (.slice ua tt.length uc)).heap[w.heap.size+1]?=some (.cells #[.int .i64 k,.int .i64 s,.bool on,.string ⟨c.toArray⟩,.int .i64 sh,.int .i64 pr,.int .i64 si,.string ⟨st.toArray⟩,.int .u64 sum,.slice ta tt.length tc] 29 (0,0))):=hZq ((Below.heap_setCell _ _ _ (w.heap.size+1) (show ¬ w.heap.size+1=w.heap.size by omega)).trans FB.out)
 have RBz:Hid ((w4.setCell ⟨w.heap.size,0,none⟩ (.slice ua tt.length uc)).heap[w.heap.size+1+1]?=some (.cells #[.slice none 0 0,.int .i64 0,.bool false] 24 (0,0))):=hZq ((Below.heap_setCell _ _ _ (w.heap.size+1+1) (show ¬ w.heap.size+1+1=w.heap.size by omega)).trans RB.out)
 have HBz:Hid (Below w.heap.size w (w4.setCell ⟨w.heap.size,0,none⟩ (.slice ua tt.length uc))):=hZq (HB.out.setCell (show w.heap.size≤w.heap.size by omega) _)
 have Uz:=hZq (OwnR.setCell (a:=⟨w.heap.size,0,none⟩) U.out (show w.heap.size < w.heap.size+1+1+1 by omega) (.slice ua tt.length uc))
 clear HB CB FB RB U
 generalize w4.setCell ⟨w.heap.size,0,none⟩ (.slice ua tt.length uc)=w5 at CBz FBz RBz Uz HBz ⊢
 have CB:=CBz
 clear CBz
 have FB:=FBz
 clear FBz
 have RB:=RBz
 clear RBz
 have U:=Uz
 clear Uz
 have HB:=HBz
 clear HBz
 have CBz:Hid ((w5.setCell ⟨w.heap.size,2,none⟩ (.bool false)).heap[w.heap.size]?=some (.cells #[.slice ua tt.length uc,.int .i64 n,.bool false] 24 (0,0))):=hZq (heap_setCell_same w5 w.heap.size 2 _ _ (.bool false) CB.out)
 have FBz:Hid ((w5.setCell ⟨w.heap.size,2,none⟩ (.bool false)).heap[w.heap.size+1]?=some (.cells #[.int .i64 k,.int .i64 s,.bool on,.string ⟨c.toArray⟩,.int .i64 sh,.int .i64 pr,.int .i64 si,.string ⟨st.toArray⟩,.int .u64 sum,.slice ta tt.length tc] 29 (0,0))):=hZq ((Below.heap_setCell _ _ _ (w.heap.size+1) (show ¬ w.heap.size+1=w.heap.size by omega)).trans FB.out)
 have RBz:Hid ((w5.setCell ⟨w.heap.size,2,none⟩ (.bool false)).heap[w.heap.size+1+1]?=some (.cells #[.slice none 0 0,.int .i64 0,.bool false] 24 (0,0))):=hZq ((Below.heap_setCell _ _ _ (w.heap.size+1+1) (show ¬ w.heap.size+1+1=w.heap.size by omega)).trans RB.out)
 have HBz:Hid (Below w.heap.size w (w5.setCell ⟨w.heap.size,2,none⟩ (.bool false))):=hZq (HB.out.setCell (show w.heap.size≤w.heap.size by omega) _)
 have Uz:=hZq (OwnR.setCell (a:=⟨w.heap.size,2,none⟩) U.out (show w.heap.size < w.heap.size+1+1+1 by omega) (.bool false))
 clear HB CB FB RB U
 generalize w5.setCell ⟨w.heap.size,2,none⟩ (.bool false)=w6 at CBz FBz RBz Uz HBz ⊢
 have CB:=CBz
 clear CBz
 have FB:=FBz
 clear FBz
 have RB:=RBz
 clear RBz
 have U:=Uz
 clear Uz
 have HB:=HBz
 clear HBz
 obtain⟨⟨CBc0,CBc1,CBc2⟩,⟨CBf0,CBf1,CBf2⟩⟩:=blk3 CB.out
 obtain⟨⟨RBc0,RBc1,RBc2⟩,⟨RBf0,RBf1,RBf2⟩⟩:=blk3 RB.out
 go_wp2_with fail
 clear CBc0 CBc1 CBc2 CBf0 CBf1 CBf2 RBc0 RBc1 RBc2 RBf0 RBf1 RBf2
 have hz:=stN3_heap RB.out (.slice ua tt.length uc) (.int .i64 n) (.bool false)
 have hle:w.heap.size≤w.heap.size+1+1:=by omega
 obtain⟨⟨z0,z1,z2⟩,-⟩:=blk3 hz
 unfold stN3 at z0 z1 z2
 refine bodyPost_ret (v:=.agg #[.slice ua tt.length uc,.int .i64 n,.bool false]) (by simp [results,Tryz.results98,go_sem,z0,z1,z2]) rfl ?_
 have hlt:w.heap.size+1+1 < w.heap.size+1+1+1:=Nat.lt_succ_self _
 exact⟨_,rfl,.inr (.inr (OwnR.mono (((U.out.setCell hlt _).setCell hlt _).setCell hlt _) (by omega))),((HB.out.setCell hle _).setCell hle _).setCell hle _⟩

theorem clchk_a {w:World} {v vt:Value} {t:List Row} {k s sh pr si:Int} {on:Bool} {c st:List UInt8} {sum:Nat} {tt:List Row} (hv:Tab w v t) (hvt:Tab w vt tt) (n:Int) :
  Calls Tryz.prog 97 #[.agg #[v,.int .i64 n,.bool true],.agg #[.int .i64 k,.int .i64 s,.bool on,.string ⟨c.toArray⟩,.int .i64 sh,.int .i64 pr,.int .i64 si,.string ⟨st.toArray⟩,.int .u64 sum,vt]] w fun e w' => ∃ u,e=.returned (.agg #[u,.int .i64 n,.bool true])∧CT w' w.heap.size u v vt t t tt∧Below w.heap.size w w':=by
 obtain⟨ca,cc,rfl,-⟩:=hv.open'
 obtain⟨ta,tc,rfl,-⟩:=hvt.open'
 have b0:=bl_newZ w (.cells #[.slice ca t.length cc,.int .i64 n,.bool true] 24)
 have b1:=bl_newZ (w.alloc (.cells #[.slice ca t.length cc,.int .i64 n,.bool true] 24)) (.cells #[.int .i64 k,.int .i64 s,.bool on,.string ⟨c.toArray⟩,.int .i64 sh,.int .i64 pr,.int .i64 si,.string ⟨st.toArray⟩,.int .u64 sum,.slice ta tt.length tc] 29)
 have b2:=bl_newZ ((w.alloc (.cells #[.slice ca t.length cc,.int .i64 n,.bool true] 24)).alloc (.cells #[.int .i64 k,.int .i64 s,.bool on,.string ⟨c.toArray⟩,.int .i64 sh,.int .i64 pr,.int .i64 si,.string ⟨st.toArray⟩,.int .u64 sum,.slice ta tt.length tc] 29)) (.cells #[.slice none 0 0,.int .i64 0,.bool false] 24)
 have HB:=hZq (below2Z (below2Z b0 b1) b2)
 have CB:=newQ w (.cells #[.slice ca t.length cc,.int .i64 n,.bool true] 24)
 replace CB:=upQ CB b1
 replace CB:=upQ CB b2
 replace CB:=hZq CB
 have FB:=newQ (w.alloc (.cells #[.slice ca t.length cc,.int .i64 n,.bool true] 24)) (.cells #[.int .i64 k,.int .i64 s,.bool on,.string ⟨c.toArray⟩,.int .i64 sh,.int .i64 pr,.int .i64 si,.string ⟨st.toArray⟩,.int .u64 sum,.slice ta tt.length tc] 29)
 rw [World.size_alloc] at FB
 replace FB:=upQ FB b2
 replace FB:=hZq FB
 have RB:=newQ ((w.alloc (.cells #[.slice ca t.length cc,.int .i64 n,.bool true] 24)).alloc (.cells #[.int .i64 k,.int .i64 s,.bool on,.string ⟨c.toArray⟩,.int .i64 sh,.int .i64 pr,.int .i64 si,.string ⟨st.toArray⟩,.int .u64 sum,.slice ta tt.length tc] 29)) (.cells #[.slice none 0 0,.int .i64 0,.bool false] 24)
 rw [World.size_alloc,World.size_alloc] at RB
 replace RB:=hZq RB
 clear b0 b1 b2
 clear hv hvt
 go_enter Tryz.func97,Tryz.ntmps97
 go_upto_region 1 with fail
 generalize ((w.alloc (.cells #[.slice ca t.length cc,.int .i64 n,.bool true] 24)).alloc (.cells #[.int .i64 k,.int .i64 s,.bool on,.string ⟨c.toArray⟩,.int .i64 sh,.int .i64 pr,.int .i64 si,.string ⟨st.toArray⟩,.int .u64 sum,.slice ta tt.length tc] 29)).alloc (.cells #[.slice none 0 0,.int .i64 0,.bool false] 24)=w4 at CB FB RB HB ⊢
 obtain⟨⟨CBc0,CBc1,CBc2⟩,⟨CBf0,CBf1,CBf2⟩⟩:=blk3 CB.out
 obtain⟨⟨FBc0,FBc1,FBc2,FBc3,FBc4,FBc5,FBc6,FBc7,FBc8,FBc9⟩,⟨FBf0,FBf1,FBf2,FBf3,FBf4,FBf5,FBf6,FBf7,FBf8,FBf9⟩⟩:=blk10 FB.out
 go_region
 clear CBc0 CBc1 CBc2 CBf0 CBf1 CBf2 FBc0 FBc1 FBc2 FBc3 FBc4 FBc5 FBc6 FBc7 FBc8 FBc9 FBf0 FBf1 FBf2 FBf3 FBf4 FBf5 FBf6 FBf7 FBf8 FBf9
 have CBz:Hid ((w4.setCell ⟨w.heap.size,2,none⟩ (.bool true)).heap[w.heap.size]?=some (.cells #[.slice ca t.length cc,.int .i64 n,.bool true] 24 (0,0))):=hZq (heap_setCell_same w4 w.heap.size 2 _ _ (.bool true) CB.out)
 have FBz:Hid ((w4.setCell ⟨w.heap.size,2,none⟩ (.bool true)).heap[w.heap.size+1]?=some (.cells #[.int .i64 k,.int .i64 s,.bool on,.string ⟨c.toArray⟩,.int .i64 sh,.int .i64 pr,.int .i64 si,.string ⟨st.toArray⟩,.int .u64 sum,.slice ta tt.length tc] 29 (0,0))):=hZq ((Below.heap_setCell _ _ _ (w.heap.size+1) (show ¬ w.heap.size+1=w.heap.size by omega)).trans FB.out)
 have RBz:Hid ((w4.setCell ⟨w.heap.size,2,none⟩ (.bool true)).heap[w.heap.size+1+1]?=some (.cells #[.slice none 0 0,.int .i64 0,.bool false] 24 (0,0))):=hZq ((Below.heap_setCell _ _ _ (w.heap.size+1+1) (show ¬ w.heap.size+1+1=w.heap.size by omega)).trans RB.out)
 have HBz:Hid (Below w.heap.size w (w4.setCell ⟨w.heap.size,2,none⟩ (.bool true))):=hZq (HB.out.setCell (show w.heap.size≤w.heap.size by omega) _)
 clear HB CB FB RB
 generalize w4.setCell ⟨w.heap.size,2,none⟩ (.bool true)=w5 at CBz FBz RBz HBz ⊢
 have CB:=CBz
 clear CBz
 have FB:=FBz
 clear FBz
 have RB:=RBz
 clear RBz
 have HB:=HBz
 clear HBz
 obtain⟨⟨CBc0,CBc1,CBc2⟩,⟨CBf0,CBf1,CBf2⟩⟩:=blk3 CB.out
 obtain⟨⟨RBc0,RBc1,RBc2⟩,⟨RBf0,RBf1,RBf2⟩⟩:=blk3 RB.out
 go_wp2_with fail
 clear CBc0 CBc1 CBc2 CBf0 CBf1 CBf2 RBc0 RBc1 RBc2 RBf0 RBf1 RBf2
 have hz:=stN3_heap RB.out (.slice ca t.length cc) (.int .i64 n) (.bool true)
 have hle:w.heap.size≤w.heap.size+1+1:=by omega
 obtain⟨⟨z0,z1,z2⟩,-⟩:=blk3 hz
 unfold stN3 at z0 z1 z2
 refine bodyPost_ret (v:=.agg #[.slice ca t.length cc,.int .i64 n,.bool true]) (by simp [results,Tryz.results97,go_sem,z0,z1,z2]) rfl ?_
 exact⟨_,rfl,.inl ⟨rfl,rfl⟩,(((HB.out.setCell hle _).setCell hle _).setCell hle _).drew⟩

theorem clchk_b {w:World} {v vt:Value} {t:List Row} {k s sh pr si:Int} {on:Bool} {c st:List UInt8} {sum:Nat} {tt:List Row} (hv:Tab w v t) (hvt:Tab w vt tt) (n:Int) (hs:Short t) {z:Nat} (HZ:Hid (diSum t=z)) {r:Bool} (g:((z:Int) != (sum:Int))=r) :
  Calls Tryz.prog 97 #[.agg #[v,.int .i64 n,.bool false],.agg #[.int .i64 k,.int .i64 s,.bool on,.string ⟨c.toArray⟩,.int .i64 sh,.int .i64 pr,.int .i64 si,.string ⟨st.toArray⟩,.int .u64 sum,vt]] w fun e w' => ∃ u,e=.returned (.agg #[u,.int .i64 n,.bool r])∧CT w' w.heap.size u v vt t t tt∧Below w.heap.size w w':=by
 obtain⟨ca,cc,rfl,-⟩:=hv.open'
 obtain⟨ta,tc,rfl,-⟩:=hvt.open'
 have b0:=bl_newZ w (.cells #[.slice ca t.length cc,.int .i64 n,.bool false] 24)
 have b1:=bl_newZ (w.alloc (.cells #[.slice ca t.length cc,.int .i64 n,.bool false] 24)) (.cells #[.int .i64 k,.int .i64 s,.bool on,.string ⟨c.toArray⟩,.int .i64 sh,.int .i64 pr,.int .i64 si,.string ⟨st.toArray⟩,.int .u64 sum,.slice ta tt.length tc] 29)
 have b2:=bl_newZ ((w.alloc (.cells #[.slice ca t.length cc,.int .i64 n,.bool false] 24)).alloc (.cells #[.int .i64 k,.int .i64 s,.bool on,.string ⟨c.toArray⟩,.int .i64 sh,.int .i64 pr,.int .i64 si,.string ⟨st.toArray⟩,.int .u64 sum,.slice ta tt.length tc] 29)) (.cells #[.slice none 0 0,.int .i64 0,.bool false] 24)
 have HB:=hZq (below2Z (below2Z b0 b1) b2)
 have VA:=hZq (((hv.later b0).later b1).later b2)
 have CB:=newQ w (.cells #[.slice ca t.length cc,.int .i64 n,.bool false] 24)
 replace CB:=upQ CB b1
 replace CB:=upQ CB b2
 replace CB:=hZq CB
 have FB:=newQ (w.alloc (.cells #[.slice ca t.length cc,.int .i64 n,.bool false] 24)) (.cells #[.int .i64 k,.int .i64 s,.bool on,.string ⟨c.toArray⟩,.int .i64 sh,.int .i64 pr,.int .i64 si,.string ⟨st.toArray⟩,.int .u64 sum,.slice ta tt.length tc] 29)
 rw [World.size_alloc] at FB
 replace FB:=upQ FB b2
 replace FB:=hZq FB
 have RB:=newQ ((w.alloc (.cells #[.slice ca t.length cc,.int .i64 n,.bool false] 24)).alloc (.cells #[.int .i64 k,.int .i64 s,.bool on,.string ⟨c.toArray⟩,.int .i64 sh,.int .i64 pr,.int .i64 si,.string ⟨st.toArray⟩,.int .u64 sum,.slice ta tt.length tc] 29)) (.cells #[.slice none 0 0,.int .i64 0,.bool false] 24)
 rw [World.size_alloc,World.size_alloc] at RB
 replace RB:=hZq RB
 clear b0 b1 b2
 clear hv hvt
 go_enter Tryz.func97,Tryz.ntmps97
 go_upto_region 1 with fail
 generalize ((w.alloc (.cells #[.slice ca t.length cc,.int .i64 n,.bool false] 24)).alloc (.cells #[.int .i64 k,.int .i64 s,.bool on,.string ⟨c.toArray⟩,.int .i64 sh,.int .i64 pr,.int .i64 si,.string ⟨st.toArray⟩,.int .u64 sum,.slice ta tt.length tc] 29)).alloc (.cells #[.slice none 0 0,.int .i64 0,.bool false] 24)=w4 at CB FB RB VA HB ⊢
 obtain⟨BS,hBS⟩ : ∃ BS:List (Nat × List Value),BS=[(w.heap.size+1,[.int .i64 k,.int .i64 s,.bool on,.string ⟨c.toArray⟩,.int .i64 sh,.int .i64 pr,.int .i64 si,.string ⟨st.toArray⟩,.int .u64 sum,.slice ta tt.length tc]),(w.heap.size+1+1,[.slice none 0 0,.int .i64 0,.bool false])]:=⟨_,rfl⟩
 have D0:=hZq (show heldB w4 BS from by rw [hBS]; exact heldB_cons (cellsAt_block FB.out) (heldB_cons (cellsAt_block RB.out) (heldB_nil _)))
 have hq0:∀ X,heldB X BS→X.cell? ⟨w.heap.size+1,0,none⟩=some (.int .i64 k):=fun X hx => heldB_get (vs:=[.int .i64 k,.int .i64 s,.bool on,.string ⟨c.toArray⟩,.int .i64 sh,.int .i64 pr,.int .i64 si,.string ⟨st.toArray⟩,.int .u64 sum,.slice ta tt.length tc]) hx (by rw [hBS]; simp) rfl
 have hq1:∀ X,heldB X BS→X.cell? ⟨w.heap.size+1,1,none⟩=some (.int .i64 s):=fun X hx => heldB_get (vs:=[.int .i64 k,.int .i64 s,.bool on,.string ⟨c.toArray⟩,.int .i64 sh,.int .i64 pr,.int .i64 si,.string ⟨st.toArray⟩,.int .u64 sum,.slice ta tt.length tc]) hx (by rw [hBS]; simp) rfl
 have hq2:∀ X,heldB X BS→X.cell? ⟨w.heap.size+1,2,none⟩=some (.bool on):=fun X hx => heldB_get (vs:=[.int .i64 k,.int .i64 s,.bool on,.string ⟨c.toArray⟩,.int .i64 sh,.int .i64 pr,.int .i64 si,.string ⟨st.toArray⟩,.int .u64 sum,.slice ta tt.length tc]) hx (by rw [hBS]; simp) rfl
 have hq3:∀ X,heldB X BS→X.cell? ⟨w.heap.size+1,3,none⟩=some (.string ⟨c.toArray⟩):=fun X hx => heldB_get (vs:=[.int .i64 k,.int .i64 s,.bool on,.string ⟨c.toArray⟩,.int .i64 sh,.int .i64 pr,.int .i64 si,.string ⟨st.toArray⟩,.int .u64 sum,.slice ta tt.length tc]) hx (by rw [hBS]; simp) rfl
 have hq4:∀ X,heldB X BS→X.cell? ⟨w.heap.size+1,4,none⟩=some (.int .i64 sh):=fun X hx => heldB_get (vs:=[.int .i64 k,.int .i64 s,.bool on,.string ⟨c.toArray⟩,.int .i64 sh,.int .i64 pr,.int .i64 si,.string ⟨st.toArray⟩,.int .u64 sum,.slice ta tt.length tc]) hx (by rw [hBS]; simp) rfl
 have hq5:∀ X,heldB X BS→X.cell? ⟨w.heap.size+1,5,none⟩=some (.int .i64 pr):=fun X hx => heldB_get (vs:=[.int .i64 k,.int .i64 s,.bool on,.string ⟨c.toArray⟩,.int .i64 sh,.int .i64 pr,.int .i64 si,.string ⟨st.toArray⟩,.int .u64 sum,.slice ta tt.length tc]) hx (by rw [hBS]; simp) rfl
 have hq6:∀ X,heldB X BS→X.cell? ⟨w.heap.size+1,6,none⟩=some (.int .i64 si):=fun X hx => heldB_get (vs:=[.int .i64 k,.int .i64 s,.bool on,.string ⟨c.toArray⟩,.int .i64 sh,.int .i64 pr,.int .i64 si,.string ⟨st.toArray⟩,.int .u64 sum,.slice ta tt.length tc]) hx (by rw [hBS]; simp) rfl
 have hq7:∀ X,heldB X BS→X.cell? ⟨w.heap.size+1,7,none⟩=some (.string ⟨st.toArray⟩):=fun X hx => heldB_get (vs:=[.int .i64 k,.int .i64 s,.bool on,.string ⟨c.toArray⟩,.int .i64 sh,.int .i64 pr,.int .i64 si,.string ⟨st.toArray⟩,.int .u64 sum,.slice ta tt.length tc]) hx (by rw [hBS]; simp) rfl
 have hq8:∀ X,heldB X BS→X.cell? ⟨w.heap.size+1,8,none⟩=some (.int .u64 sum):=fun X hx => heldB_get (vs:=[.int .i64 k,.int .i64 s,.bool on,.string ⟨c.toArray⟩,.int .i64 sh,.int .i64 pr,.int .i64 si,.string ⟨st.toArray⟩,.int .u64 sum,.slice ta tt.length tc]) hx (by rw [hBS]; simp) rfl
 have hq9:∀ X,heldB X BS→X.cell? ⟨w.heap.size+1,9,none⟩=some (.slice ta tt.length tc):=fun X hx => heldB_get (vs:=[.int .i64 k,.int .i64 s,.bool on,.string ⟨c.toArray⟩,.int .i64 sh,.int .i64 pr,.int .i64 si,.string ⟨st.toArray⟩,.int .u64 sum,.slice ta tt.length tc]) hx (by rw [hBS]; simp) rfl
 have hq10:∀ X,heldB X BS→X.cell? ⟨w.heap.size+1+1,0,none⟩=some (.slice none 0 0):=fun X hx => heldB_get (vs:=[.slice none 0 0,.int .i64 0,.bool false]) hx (by rw [hBS]; simp) rfl
 have hq11:∀ X,heldB X BS→X.cell? ⟨w.heap.size+1+1,1,none⟩=some (.int .i64 0):=fun X hx => heldB_get (vs:=[.slice none 0 0,.int .i64 0,.bool false]) hx (by rw [hBS]; simp) rfl
 have hq12:∀ X,heldB X BS→X.cell? ⟨w.heap.size+1+1,2,none⟩=some (.bool false):=fun X hx => heldB_get (vs:=[.slice none 0 0,.int .i64 0,.bool false]) hx (by rw [hBS]; simp) rfl
 have hBN:Hid (∀ p ∈ BS,¬ p.1=w.heap.size):=hZq (by rw [hBS]; intro p hp; simp only [List.mem_cons,List.not_mem_nil,or_false] at hp; rcases hp with rfl | rfl <;> simp only <;> omega)
 clear hBS
 have K0:Hid (Below w4.heap.size w4 w4.drew):=hZq (Below.refl _ _).drew
 refine wp_region_held_drew (S:=(fun X => heldB X BS)) (by kernel_rfl) ?_ (fun hHeld => ?_)
 ·exact heldB_up K0.out D0.out
 generalize w4.drew=z0 at K0 hHeld ⊢
 refine wpAnyH_take (i:=0) (oi:=⟨some 5,.fieldAddr 24 (.tmp 2) 2,0,"client.go:85",#[],none⟩) (v:=?_) rfl (by as_aux_lemma => kernel_rfl) (by as_aux_lemma => kernel_rfl) (by as_aux_lemma => kernel_rfl) (fun _ _ _ h => h) (Or.inl ⟨by rfl,?_⟩) (by assumption) ?_
 rotate_left
 ·intro w' hSw
  try dsimp only at hSw
  go_simp
  try with_reducible rfl
 try simp only [Act.put,List.setIfInBounds_toArray,List.set_cons_zero,List.set_cons_succ]
 obtain⟨⟨q0,q1,q2⟩,-⟩:=blk3 (upQ CB.out (K0.out))
 refine wpAnyH_ready (rs:=[1]) (by as_aux_lemma => kernel_rfl) (by simp) ?_
 refine AllReadyH.cons (o:=⟨some 6,.load 4 (.tmp 5),4,"client.go:85",#[⟨0,.data⟩],none⟩) rfl (fun Kx hK => ?_) AllReadyH.nil
 go_simp
 refine hK.out _ _ ?_ (fun hHeld2 => ?_)
 ·exact heldB_up (K0.out) D0.out
 clear hK Kx hHeld q0 q1 q2
 have hHeld:=hHeld2
 clear hHeld2
 try simp only [Act.put,List.setIfInBounds_toArray,List.set_cons_zero,List.set_cons_succ]
 refine wpAnyH_take (i:=2) (oi:=⟨some 7,.move (.tmp 6),4,"client.go:85",#[⟨1,.data⟩],none⟩) (v:=?_) rfl (by as_aux_lemma => kernel_rfl) (by as_aux_lemma => kernel_rfl) (by as_aux_lemma => kernel_rfl) (fun _ _ _ h => h) (Or.inl ⟨by rfl,?_⟩) (by assumption) ?_
 rotate_left
 ·intro w' hSw
  try dsimp only at hSw
  go_simp
  try with_reducible rfl
 try simp only [Act.put,List.setIfInBounds_toArray,List.set_cons_zero,List.set_cons_succ]
 refine wpAnyH_take (i:=3) (oi:=⟨some 8,.fieldAddr 24 (.tmp 2) 0,0,"client.go:85",#[⟨2,.guard⟩],some (2,false)⟩) (v:=?_) rfl (by as_aux_lemma => kernel_rfl) (by as_aux_lemma => kernel_rfl) (by as_aux_lemma => kernel_rfl) (fun _ _ _ h => h) (Or.inl ⟨by rfl,?_⟩) (by assumption) ?_
 rotate_left
 ·intro w' hSw
  try dsimp only at hSw
  go_simp
  try with_reducible rfl
 try simp only [Act.put,List.setIfInBounds_toArray,List.set_cons_zero,List.set_cons_succ]
 refine wpAnyH_take (i:=6) (oi:=⟨some 11,.fieldAddr 29 (.tmp 3) 5,0,"client.go:85",#[⟨2,.guard⟩],some (2,false)⟩) (v:=?_) rfl (by as_aux_lemma => kernel_rfl) (by as_aux_lemma => kernel_rfl) (by as_aux_lemma => kernel_rfl) (fun _ _ _ h => h) (Or.inl ⟨by rfl,?_⟩) (by assumption) ?_
 rotate_left
 ·intro w' hSw
  try dsimp only at hSw
  go_simp
  try with_reducible rfl
 try simp only [Act.put,List.setIfInBounds_toArray,List.set_cons_zero,List.set_cons_succ]
 refine wpAnyH_take (i:=7) (oi:=⟨some 12,.load 27 (.tmp 11),27,"client.go:85",#[⟨6,.data⟩,⟨2,.guard⟩],some (2,false)⟩) (v:=?_) rfl (by as_aux_lemma => kernel_rfl) (by as_aux_lemma => kernel_rfl) (by as_aux_lemma => kernel_rfl) (fun _ _ _ h => h) (Or.inl ⟨by rfl,?_⟩) (by assumption) ?_
 rotate_left
 ·intro w' hSw
  try dsimp only at hSw
  go_simp
  try with_reducible rfl
 try simp only [Act.put,List.setIfInBounds_toArray,List.set_cons_zero,List.set_cons_succ]
 obtain⟨⟨q0,q1,q2⟩,-⟩:=blk3 (upQ CB.out (K0.out))
 refine wpAnyH_ready (rs:=[4]) (by as_aux_lemma => kernel_rfl) (by simp) ?_
 refine AllReadyH.cons (o:=⟨some 9,.load 22 (.tmp 8),22,"client.go:85",#[⟨3,.data⟩,⟨2,.guard⟩],some (2,false)⟩) rfl (fun Kx hK => ?_) AllReadyH.nil
 go_simp
 refine hK.out _ _ ?_ (fun hHeld2 => ?_)
 ·exact heldB_up (K0.out) D0.out
 clear hK Kx hHeld q0 q1 q2
 have hHeld:=hHeld2
 clear hHeld2
 try simp only [Act.put,List.setIfInBounds_toArray,List.set_cons_zero,List.set_cons_succ]
 refine wpAnyH_ready (rs:=[5]) (by as_aux_lemma => kernel_rfl) (by simp) ?_
 refine AllReadyH.cons (o:=⟨some 10,.call { callee:=.value (.func 135),args:=#[.tmp 9],argTypes:=#[22] },27,"client.go:85",#[⟨4,.data⟩,⟨2,.chain⟩,⟨2,.guard⟩],some (2,false)⟩) rfl (fun Kx hK => ?_) AllReadyH.nil
 go_simp
 refine (sum_eqC (VA.out.later (K0.out)) hs HZ).mono ?_
 rintro e z1003 ⟨rfl,bz1003⟩
 have K1003:=hZq (below2Z K0.out bz1003)
 have D1003:=hZq (heldB_up K1003.out D0.out)
 clear bz1003
 go_wp2_with fail
 refine hK.out _ _ ?_ (fun hHeld2 => ?_)
 ·exact D1003.out
 clear hK Kx hHeld
 have hHeld:=hHeld2
 clear hHeld2
 try simp only [Act.put,List.setIfInBounds_toArray,List.set_cons_zero,List.set_cons_succ]
 refine wpAnyH_take (i:=8) (oi:=⟨some 13,.binOp .neq 27 (.tmp 10) (.tmp 12) 27,4,"client.go:85",#[⟨5,.data⟩,⟨7,.data⟩,⟨2,.guard⟩],some (2,false)⟩) (v:=?_) rfl (by as_aux_lemma => kernel_rfl) (by as_aux_lemma => kernel_rfl) (by as_aux_lemma => kernel_rfl) (fun _ _ _ h => h) (Or.inl ⟨by rfl,?_⟩) (by assumption) ?_
 rotate_left
 ·intro w' hSw
  try dsimp only at hSw
  go_simp
  try with_reducible rfl
 try simp only [Act.put,List.setIfInBounds_toArray,List.set_cons_zero,List.set_cons_succ]
 refine wpAnyH_take (i:=9) (oi:=⟨some 14,.pick (.tmp 7) (.const (.bool true)) (.tmp 13),4,"client.go:85",#[⟨2,.data⟩,⟨8,.data⟩],none⟩) (v:=?_) rfl (by as_aux_lemma => kernel_rfl) (by as_aux_lemma => kernel_rfl) (by as_aux_lemma => kernel_rfl) (fun _ _ _ h => h) (Or.inl ⟨by rfl,?_⟩) (by assumption) ?_
 rotate_left
 ·intro w' hSw
  try dsimp only at hSw
  go_simp
  try with_reducible rfl
 try simp only [Act.put,List.setIfInBounds_toArray,List.set_cons_zero,List.set_cons_succ]
 refine wpAnyH_take (i:=10) (oi:=⟨some 15,.fieldAddr 24 (.tmp 2) 2,0,"client.go:85",#[⟨0,.phase⟩,⟨1,.phase⟩,⟨2,.phase⟩,⟨3,.phase⟩,⟨4,.phase⟩,⟨5,.phase⟩,⟨6,.phase⟩,⟨7,.phase⟩,⟨8,.phase⟩,⟨9,.phase⟩],none⟩) (v:=?_) rfl (by as_aux_lemma => kernel_rfl) (by as_aux_lemma => kernel_rfl) (by as_aux_lemma => kernel_rfl) (fun _ _ _ h => h) (Or.inl ⟨by rfl,?_⟩) (by assumption) ?_
 rotate_left
 ·intro w' hSw
  try dsimp only at hSw
  go_simp
  try with_reducible rfl
 try simp only [Act.put,List.setIfInBounds_toArray,List.set_cons_zero,List.set_cons_succ]
 obtain⟨⟨q0,q1,q2⟩,⟨g0,g1,g2⟩⟩:=blk3 (upQ CB.out (K1003.out))
 refine wpAnyH_ready (rs:=[11]) (by as_aux_lemma => kernel_rfl) (by simp) ?_
 refine AllReadyH.cons (o:=⟨none,.store 4 (.tmp 15) (.tmp 14),0,"client.go:85",#[⟨10,.data⟩,⟨9,.data⟩,⟨5,.chain⟩,⟨0,.phase⟩,⟨1,.phase⟩,⟨2,.phase⟩,⟨3,.phase⟩,⟨4,.phase⟩,⟨5,.phase⟩,⟨6,.phase⟩,⟨7,.phase⟩,⟨8,.phase⟩,⟨9,.phase⟩],none⟩) rfl (fun Kx hK => ?_) AllReadyH.nil
 go_simp
 clear q0 q1 q2 g0 g1 g2
 have CBz:Hid ((z1003.setCell ⟨w.heap.size,2,none⟩ (.bool r)).heap[w.heap.size]?=some (.cells #[.slice ca t.length cc,.int .i64 n,.bool r] 24 (0,0))):=hZq (heap_setCell_same z1003 w.heap.size 2 _ _ (.bool r) (upQ CB.out (K1003.out)))
 have FBz:Hid ((z1003.setCell ⟨w.heap.size,2,none⟩ (.bool r)).heap[w.heap.size+1]?=some (.cells #[.int .i64 k,.int .i64 s,.bool on,.string ⟨c.toArray⟩,.int .i64 sh,.int .i64 pr,.int .i64 si,.string ⟨st.toArray⟩,.int .u64 sum,.slice ta tt.length tc] 29 (0,0))):=hZq ((Below.heap_setCell _ _ _ (w.heap.size+1) (show ¬ w.heap.size+1=w.heap.size by omega)).trans (upQ FB.out (K1003.out)))
 have RBz:Hid ((z1003.setCell ⟨w.heap.size,2,none⟩ (.bool r)).heap[w.heap.size+1+1]?=some (.cells #[.slice none 0 0,.int .i64 0,.bool false] 24 (0,0))):=hZq ((Below.heap_setCell _ _ _ (w.heap.size+1+1) (show ¬ w.heap.size+1+1=w.heap.size by omega)).trans (upQ RB.out (K1003.out)))
 have HBz:Hid (Below w.heap.size w (z1003.setCell ⟨w.heap.size,2,none⟩ (.bool r))):=hZq ((below2Z HB.out (K1003.out)).setCell (show w.heap.size≤w.heap.size by omega) _)
 have HLD:Hid (heldB (z1003.setCell ⟨w.heap.size,2,none⟩ (.bool r)) BS):=hZq (heldB_farF (heldB_up (K1003.out) D0.out) (fun k hk => Below.heap_setCell _ _ _ k hk) hBN.out)
 refine hK.out _ _ ?_ (fun hHeld2 => ?_)
 ·exact HLD.out
 clear hK Kx hHeld HLD
 have hHeld:=hHeld2
 clear hHeld2
 generalize z1003.setCell ⟨w.heap.size,2,none⟩ (.bool r)=zs at CBz FBz RBz HBz hHeld ⊢
 refine wpAnyH_done (by kernel_rfl) ?_ _
 clear CB FB RB HB
 have CB:=CBz
 have RB:=RBz
 have HB:=HBz
 clear CBz RBz HBz
 obtain⟨⟨CBc0,CBc1,CBc2⟩,⟨CBf0,CBf1,CBf2⟩⟩:=blk3 CB.out
 obtain⟨⟨RBc0,RBc1,RBc2⟩,⟨RBf0,RBf1,RBf2⟩⟩:=blk3 RB.out
 go_wp2_with fail
 clear CBc0 CBc1 CBc2 CBf0 CBf1 CBf2 RBc0 RBc1 RBc2 RBf0 RBf1 RBf2
 have hz:=stN3_heap RB.out (.slice ca t.length cc) (.int .i64 n) (.bool r)
 have hle:w.heap.size≤w.heap.size+1+1:=by omega
 obtain⟨⟨z0,z1,z2⟩,-⟩:=blk3 hz
 unfold stN3 at z0 z1 z2
 refine bodyPost_ret (v:=.agg #[.slice ca t.length cc,.int .i64 n,.bool r]) (by simp [results,Tryz.results97,go_sem,z0,z1,z2]) rfl ?_
 exact⟨_,rfl,.inl ⟨rfl,rfl⟩,((HB.out.setCell hle _).setCell hle _).setCell hle _⟩

theorem CT.mono {w:World} {b b2:Nat} {v vc vt:Value} {t tc tt:List Row} (h:CT w b v vc vt t tc tt) (hb:b2≤b):CT w b2 v vc vt t tc tt:=h.imp id fun h => h.imp id fun h => OwnR.mono h hb

theorem CT.shape {w:World} {b:Nat} {v:Value} {a1 a2:Option Addr} {n1 n2 c1 c2:Nat} {t tc tt:List Row} (h:CT w b v (.slice a1 n1 c1) (.slice a2 n2 c2) t tc tt):∃ a n c,v=.slice a n c:=by
 rcases h with ⟨rfl,rfl⟩ | ⟨rfl,rfl⟩ | h
 ·exact⟨_,_,_,rfl⟩
 ·exact⟨_,_,_,rfl⟩
 ·obtain⟨a,c,rfl,_⟩:=Tab.open' (OwnR.tab h)
  exact⟨_,_,_,rfl⟩

theorem CT.later {w w':World} {b:Nat} {v vc vt:Value} {t tc tt:List Row} (h:CT w b v vc vt t tc tt) (hb:Below w.heap.size w w'):CT w' b v vc vt t tc tt:=h.imp id fun h => h.imp id fun h => OwnR.later h hb

theorem CT.set {w:World} {b:Nat} {v vc vt:Value} {t tc tt:List Row} (h:CT w b v vc vt t tc tt) {a:Addr} (ha:a.block < b) (u:Value):CT (w.setCell a u) b v vc vt t tc tt:=h.imp id fun h => h.imp id fun h => OwnR.setCell h ha u

theorem CT.tab {w:World} {b:Nat} {v vc vt:Value} {t tc tt:List Row} (h:CT w b v vc vt t tc tt) (h1:Tab w vc tc) (h2:Tab w vt tt):Tab w v t:=by
 rcases h with ⟨rfl,rfl⟩ | ⟨rfl,rfl⟩ | h
 ·exact h1
 ·exact h2
 ·exact OwnR.tab h

theorem clfeed_no {w:World} {v vt:Value} {t:List Row} {k s sh pr si:Int} {on:Bool} {c st:List UInt8} {sum:Nat} {tt:List Row} (hv:Tab w v t) (hvt:Tab w vt tt) (n:Int) (o:Bool) (_hk:(Lit.int .i64 k).wf=true) (HL:Hid (∀ {z:World} {B:Nat},FnMap z B kindFnsC→(Instr.lookup 97 (.map (some B)) (.int .i64 k) true).run Tryz.prog z=.ok (.tuple #[.nilFunc,.bool false]) z)) :
  Calls Tryz.prog 18 #[.agg #[v,.int .i64 n,.bool o],.agg #[.int .i64 k,.int .i64 s,.bool on,.string ⟨c.toArray⟩,.int .i64 sh,.int .i64 pr,.int .i64 si,.string ⟨st.toArray⟩,.int .u64 sum,vt]] w fun e w' => ∃ u,e=.returned (.agg #[u,.int .i64 n,.bool o])∧CT w' w.heap.size u v vt t t tt∧Below w.heap.size w w':=by
 obtain⟨ca,cc,rfl,-⟩:=hv.open'
 obtain⟨ta,tc,rfl,-⟩:=hvt.open'
 have VA:=hZq (fun X (hX:Below w.heap.size w X) => hv.later hX)
 have VT:=hZq (fun X (hX:Below w.heap.size w X) => hvt.later hX)
 have b0:=bl_newZ w (.cells #[.slice ca t.length cc,.int .i64 n,.bool o] 24)
 have b1:=bl_newZ (w.alloc (.cells #[.slice ca t.length cc,.int .i64 n,.bool o] 24)) (.cells #[.int .i64 k,.int .i64 s,.bool on,.string ⟨c.toArray⟩,.int .i64 sh,.int .i64 pr,.int .i64 si,.string ⟨st.toArray⟩,.int .u64 sum,.slice ta tt.length tc] 29)
 have b2:=bl_newZ ((w.alloc (.cells #[.slice ca t.length cc,.int .i64 n,.bool o] 24)).alloc (.cells #[.int .i64 k,.int .i64 s,.bool on,.string ⟨c.toArray⟩,.int .i64 sh,.int .i64 pr,.int .i64 si,.string ⟨st.toArray⟩,.int .u64 sum,.slice ta tt.length tc] 29)) (.cells #[.slice none 0 0,.int .i64 0,.bool false] 24)
 have HB:=hZq (below2Z (below2Z b0 b1) b2)
 have CB:=newQ w (.cells #[.slice ca t.length cc,.int .i64 n,.bool o] 24)
 replace CB:=upQ CB b1
 replace CB:=upQ CB b2
 replace CB:=hZq CB
 have FB:=newQ (w.alloc (.cells #[.slice ca t.length cc,.int .i64 n,.bool o] 24)) (.cells #[.int .i64 k,.int .i64 s,.bool on,.string ⟨c.toArray⟩,.int .i64 sh,.int .i64 pr,.int .i64 si,.string ⟨st.toArray⟩,.int .u64 sum,.slice ta tt.length tc] 29)
 rw [World.size_alloc] at FB
 replace FB:=upQ FB b2
 replace FB:=hZq FB
 have RB:=newQ ((w.alloc (.cells #[.slice ca t.length cc,.int .i64 n,.bool o] 24)).alloc (.cells #[.int .i64 k,.int .i64 s,.bool on,.string ⟨c.toArray⟩,.int .i64 sh,.int .i64 pr,.int .i64 si,.string ⟨st.toArray⟩,.int .u64 sum,.slice ta tt.length tc] 29)) (.cells #[.slice none 0 0,.int .i64 0,.bool false] 24)
 rw [World.size_alloc,World.size_alloc] at RB
 replace RB:=hZq RB
 clear b0 b1 b2
 clear hv hvt
 go_enter Tryz.func18,Tryz.ntmps18
 go_upto_region 1 with fail
 generalize ((w.alloc (.cells #[.slice ca t.length cc,.int .i64 n,.bool o] 24)).alloc (.cells #[.int .i64 k,.int .i64 s,.bool on,.string ⟨c.toArray⟩,.int .i64 sh,.int .i64 pr,.int .i64 si,.string ⟨st.toArray⟩,.int .u64 sum,.slice ta tt.length tc] 29)).alloc (.cells #[.slice none 0 0,.int .i64 0,.bool false] 24)=w4 at CB FB RB HB ⊢
 obtain⟨BS,hBS⟩ : ∃ BS:List (Nat × List Value),BS=[(w.heap.size,[.slice ca t.length cc,.int .i64 n,.bool o]),(w.heap.size+1,[.int .i64 k,.int .i64 s,.bool on,.string ⟨c.toArray⟩,.int .i64 sh,.int .i64 pr,.int .i64 si,.string ⟨st.toArray⟩,.int .u64 sum,.slice ta tt.length tc]),(w.heap.size+1+1,[.slice none 0 0,.int .i64 0,.bool false])]:=⟨_,rfl⟩
 have D0:=hZq (show heldB w4 BS from by rw [hBS]; exact heldB_cons (cellsAt_block CB.out) (heldB_cons (cellsAt_block FB.out) (heldB_cons (cellsAt_block RB.out) (heldB_nil _))))
 have hq0:∀ X,heldB X BS→X.cell? ⟨w.heap.size,0,none⟩=some (.slice ca t.length cc):=fun X hx => heldB_get (vs:=[.slice ca t.length cc,.int .i64 n,.bool o]) hx (by rw [hBS]; simp) rfl
 have hq1:∀ X,heldB X BS→X.cell? ⟨w.heap.size,1,none⟩=some (.int .i64 n):=fun X hx => heldB_get (vs:=[.slice ca t.length cc,.int .i64 n,.bool o]) hx (by rw [hBS]; simp) rfl
 have hq2:∀ X,heldB X BS→X.cell? ⟨w.heap.size,2,none⟩=some (.bool o):=fun X hx => heldB_get (vs:=[.slice ca t.length cc,.int .i64 n,.bool o]) hx (by rw [hBS]; simp) rfl
 have hq3:∀ X,heldB X BS→X.cell? ⟨w.heap.size+1,0,none⟩=some (.int .i64 k):=fun X hx => heldB_get (vs:=[.int .i64 k,.int .i64 s,.bool on,.string ⟨c.toArray⟩,.int .i64 sh,.int .i64 pr,.int .i64 si,.string ⟨st.toArray⟩,.int .u64 sum,.slice ta tt.length tc]) hx (by rw [hBS]; simp) rfl
 have hq4:∀ X,heldB X BS→X.cell? ⟨w.heap.size+1,1,none⟩=some (.int .i64 s):=fun X hx => heldB_get (vs:=[.int .i64 k,.int .i64 s,.bool on,.string ⟨c.toArray⟩,.int .i64 sh,.int .i64 pr,.int .i64 si,.string ⟨st.toArray⟩,.int .u64 sum,.slice ta tt.length tc]) hx (by rw [hBS]; simp) rfl
 have hq5:∀ X,heldB X BS→X.cell? ⟨w.heap.size+1,2,none⟩=some (.bool on):=fun X hx => heldB_get (vs:=[.int .i64 k,.int .i64 s,.bool on,.string ⟨c.toArray⟩,.int .i64 sh,.int .i64 pr,.int .i64 si,.string ⟨st.toArray⟩,.int .u64 sum,.slice ta tt.length tc]) hx (by rw [hBS]; simp) rfl
 have hq6:∀ X,heldB X BS→X.cell? ⟨w.heap.size+1,3,none⟩=some (.string ⟨c.toArray⟩):=fun X hx => heldB_get (vs:=[.int .i64 k,.int .i64 s,.bool on,.string ⟨c.toArray⟩,.int .i64 sh,.int .i64 pr,.int .i64 si,.string ⟨st.toArray⟩,.int .u64 sum,.slice ta tt.length tc]) hx (by rw [hBS]; simp) rfl
 have hq7:∀ X,heldB X BS→X.cell? ⟨w.heap.size+1,4,none⟩=some (.int .i64 sh):=fun X hx => heldB_get (vs:=[.int .i64 k,.int .i64 s,.bool on,.string ⟨c.toArray⟩,.int .i64 sh,.int .i64 pr,.int .i64 si,.string ⟨st.toArray⟩,.int .u64 sum,.slice ta tt.length tc]) hx (by rw [hBS]; simp) rfl
 have hq8:∀ X,heldB X BS→X.cell? ⟨w.heap.size+1,5,none⟩=some (.int .i64 pr):=fun X hx => heldB_get (vs:=[.int .i64 k,.int .i64 s,.bool on,.string ⟨c.toArray⟩,.int .i64 sh,.int .i64 pr,.int .i64 si,.string ⟨st.toArray⟩,.int .u64 sum,.slice ta tt.length tc]) hx (by rw [hBS]; simp) rfl
 have hq9:∀ X,heldB X BS→X.cell? ⟨w.heap.size+1,6,none⟩=some (.int .i64 si):=fun X hx => heldB_get (vs:=[.int .i64 k,.int .i64 s,.bool on,.string ⟨c.toArray⟩,.int .i64 sh,.int .i64 pr,.int .i64 si,.string ⟨st.toArray⟩,.int .u64 sum,.slice ta tt.length tc]) hx (by rw [hBS]; simp) rfl
 have hq10:∀ X,heldB X BS→X.cell? ⟨w.heap.size+1,7,none⟩=some (.string ⟨st.toArray⟩):=fun X hx => heldB_get (vs:=[.int .i64 k,.int .i64 s,.bool on,.string ⟨c.toArray⟩,.int .i64 sh,.int .i64 pr,.int .i64 si,.string ⟨st.toArray⟩,.int .u64 sum,.slice ta tt.length tc]) hx (by rw [hBS]; simp) rfl
 have hq11:∀ X,heldB X BS→X.cell? ⟨w.heap.size+1,8,none⟩=some (.int .u64 sum):=fun X hx => heldB_get (vs:=[.int .i64 k,.int .i64 s,.bool on,.string ⟨c.toArray⟩,.int .i64 sh,.int .i64 pr,.int .i64 si,.string ⟨st.toArray⟩,.int .u64 sum,.slice ta tt.length tc]) hx (by rw [hBS]; simp) rfl
 have hq12:∀ X,heldB X BS→X.cell? ⟨w.heap.size+1,9,none⟩=some (.slice ta tt.length tc):=fun X hx => heldB_get (vs:=[.int .i64 k,.int .i64 s,.bool on,.string ⟨c.toArray⟩,.int .i64 sh,.int .i64 pr,.int .i64 si,.string ⟨st.toArray⟩,.int .u64 sum,.slice ta tt.length tc]) hx (by rw [hBS]; simp) rfl
 have hq13:∀ X,heldB X BS→X.cell? ⟨w.heap.size+1+1,0,none⟩=some (.slice none 0 0):=fun X hx => heldB_get (vs:=[.slice none 0 0,.int .i64 0,.bool false]) hx (by rw [hBS]; simp) rfl
 have hq14:∀ X,heldB X BS→X.cell? ⟨w.heap.size+1+1,1,none⟩=some (.int .i64 0):=fun X hx => heldB_get (vs:=[.slice none 0 0,.int .i64 0,.bool false]) hx (by rw [hBS]; simp) rfl
 have hq15:∀ X,heldB X BS→X.cell? ⟨w.heap.size+1+1,2,none⟩=some (.bool false):=fun X hx => heldB_get (vs:=[.slice none 0 0,.int .i64 0,.bool false]) hx (by rw [hBS]; simp) rfl
 clear hBS
 have K0:Hid (Below w4.heap.size w4 w4.drew):=hZq (Below.refl _ _).drew
 refine wp_region_held_drew (S:=(fun X => heldB X BS)) (by kernel_rfl) ?_ (fun hHeld => ?_)
 ·exact heldB_up K0.out D0.out
 generalize w4.drew=z0 at K0 hHeld ⊢
 refine wpAnyH_take (i:=1) (oi:=⟨some 9,.fieldAddr 29 (.tmp 3) 0,0,"client.go:36",#[],none⟩) (v:=?_) rfl (by as_aux_lemma => kernel_rfl) (by as_aux_lemma => kernel_rfl) (by as_aux_lemma => kernel_rfl) (fun _ _ _ h => h) (Or.inl ⟨by rfl,?_⟩) (by assumption) ?_
 rotate_left
 ·intro w' hSw
  try dsimp only at hSw
  go_simp
  try with_reducible rfl
 try simp only [Act.put,List.setIfInBounds_toArray,List.set_cons_zero,List.set_cons_succ]
 refine wpAnyH_take (i:=2) (oi:=⟨some 10,.load 3 (.tmp 9),3,"client.go:36",#[⟨1,.data⟩],none⟩) (v:=?_) rfl (by as_aux_lemma => kernel_rfl) (by as_aux_lemma => kernel_rfl) (by as_aux_lemma => kernel_rfl) (fun _ _ _ h => h) (Or.inl ⟨by rfl,?_⟩) (by assumption) ?_
 rotate_left
 ·intro w' hSw
  try dsimp only at hSw
  go_simp
  try with_reducible rfl
 try simp only [Act.put,List.setIfInBounds_toArray,List.set_cons_zero,List.set_cons_succ]
 refine wpAnyH_ready (rs:=[0]) (by as_aux_lemma => kernel_rfl) (by simp) ?_
 refine AllReadyH.cons (o:=⟨some 8,.call { callee:=.value (.func 59),args:=#[],argTypes:=#[] },97,"client.go:36",#[],none⟩) rfl (fun Kx hK => ?_) AllReadyH.nil
 go_simp
 refine (kindsC_any _).mono ?_
 rintro e z1001 ⟨rfl,hfn,bz1001⟩
 have K1001:=hZq (below2Z K0.out bz1001)
 have D1001:=hZq (heldB_up K1001.out D0.out)
 have HFN:=hZq hfn
 clear hfn
 clear bz1001
 go_wp2_with fail
 refine hK.out _ _ ?_ (fun hHeld2 => ?_)
 ·exact D1001.out
 clear hK Kx hHeld
 have hHeld:=hHeld2
 clear hHeld2
 try simp only [Act.put,List.setIfInBounds_toArray,List.set_cons_zero,List.set_cons_succ]
 have hlk:=HL.out HFN.out
 refine wpAnyH_ready (rs:=[3]) (by as_aux_lemma => kernel_rfl) (by simp) ?_
 refine AllReadyH.cons (o:=⟨some 11,.lookup 97 (.tmp 8) (.tmp 10) true,96,"client.go:36",#[⟨0,.data⟩,⟨2,.data⟩],none⟩) rfl (fun Kx hK => ?_) AllReadyH.nil
 go_simp
 refine hK.out _ _ ?_ (fun hHeld2 => ?_)
 ·exact heldB_up (K1001.out) D0.out
 clear hK Kx hHeld hlk
 have hHeld:=hHeld2
 clear hHeld2
 try simp only [Act.put,List.setIfInBounds_toArray,List.set_cons_zero,List.set_cons_succ]
 refine wpAnyH_take (i:=4) (oi:=⟨some 7,.move (.tmp 11),96,"client.go:36",#[⟨3,.data⟩],none⟩) (v:=?_) rfl (by as_aux_lemma => kernel_rfl) (by as_aux_lemma => kernel_rfl) (by as_aux_lemma => kernel_rfl) (fun _ _ _ h => h) (Or.inl ⟨by rfl,?_⟩) (by assumption) ?_
 rotate_left
 ·intro w' hSw
  try dsimp only at hSw
  go_simp
  try with_reducible rfl
 try simp only [Act.put,List.setIfInBounds_toArray,List.set_cons_zero,List.set_cons_succ]
 refine wpAnyH_take (i:=5) (oi:=⟨some 12,.extract (.tmp 7) 0,36,"client.go:36",#[⟨4,.data⟩],none⟩) (v:=?_) rfl (by as_aux_lemma => kernel_rfl) (by as_aux_lemma => kernel_rfl) (by as_aux_lemma => kernel_rfl) (fun _ _ _ h => h) (Or.inl ⟨by rfl,?_⟩) (by assumption) ?_
 rotate_left
 ·intro w' hSw
  try dsimp only at hSw
  go_simp
  try with_reducible rfl
 try simp only [Act.put,List.setIfInBounds_toArray,List.set_cons_zero,List.set_cons_succ]
 refine wpAnyH_take (i:=6) (oi:=⟨some 13,.extract (.tmp 7) 1,4,"client.go:36",#[⟨4,.data⟩,⟨7,.gcOnly .lateStores⟩],none⟩) (v:=?_) rfl (by as_aux_lemma => kernel_rfl) (by as_aux_lemma => kernel_rfl) (by as_aux_lemma => kernel_rfl) (fun _ _ _ h => h) (Or.inl ⟨by rfl,?_⟩) (by assumption) ?_
 rotate_left
 ·intro w' hSw
  try dsimp only at hSw
  go_simp
  try with_reducible rfl
 try simp only [Act.put,List.setIfInBounds_toArray,List.set_cons_zero,List.set_cons_succ]
 refine wpAnyH_take (i:=7) (oi:=⟨some 5,.assign (.tmp 12),36,"client.go:36",#[⟨5,.data⟩,⟨0,.chain⟩,⟨0,.phase⟩,⟨1,.phase⟩,⟨2,.phase⟩,⟨3,.phase⟩,⟨4,.phase⟩,⟨5,.phase⟩,⟨6,.textOnly .lateStores⟩],none⟩) (v:=?_) rfl (by as_aux_lemma => kernel_rfl) (by as_aux_lemma => kernel_rfl) (by as_aux_lemma => kernel_rfl) (fun _ _ _ h => h) (Or.inl ⟨by rfl,?_⟩) (by assumption) ?_
 rotate_left
 ·intro w' hSw
  try dsimp only at hSw
  go_simp
  try with_reducible rfl
 try simp only [Act.put,List.setIfInBounds_toArray,List.set_cons_zero,List.set_cons_succ]
 refine wpAnyH_take (i:=8) (oi:=⟨some 6,.assign (.tmp 13),4,"client.go:36",#[⟨6,.data⟩,⟨7,.chain⟩,⟨0,.phase⟩,⟨1,.phase⟩,⟨2,.phase⟩,⟨3,.phase⟩,⟨4,.phase⟩,⟨5,.phase⟩,⟨6,.phase⟩,⟨7,.phase⟩],none⟩) (v:=?_) rfl (by as_aux_lemma => kernel_rfl) (by as_aux_lemma => kernel_rfl) (by as_aux_lemma => kernel_rfl) (fun _ _ _ h => h) (Or.inl ⟨by rfl,?_⟩) (by assumption) ?_
 rotate_left
 ·intro w' hSw
  try dsimp only at hSw
  go_simp
  try with_reducible rfl
 try simp only [Act.put,List.setIfInBounds_toArray,List.set_cons_zero,List.set_cons_succ]
 refine wpAnyH_done (by kernel_rfl) ?_ _
 replace CB:=hZq (upQ CB.out K1001.out)
 replace FB:=hZq (upQ FB.out K1001.out)
 replace RB:=hZq (upQ RB.out K1001.out)
 replace HB:=hZq (below2Z HB.out K1001.out)
 try clear hHeld
 try clear D0
 try clear K0
 clear HFN
 obtain⟨⟨CBc0,CBc1,CBc2⟩,⟨CBf0,CBf1,CBf2⟩⟩:=blk3 CB.out
 obtain⟨⟨RBc0,RBc1,RBc2⟩,⟨RBf0,RBf1,RBf2⟩⟩:=blk3 RB.out
 go_wp2_with fail
 clear CBc0 CBc1 CBc2 CBf0 CBf1 CBf2 RBc0 RBc1 RBc2 RBf0 RBf1 RBf2
 have hz:=stN3_heap RB.out (.slice ca t.length cc) (.int .i64 n) (.bool o)
 have hle:w.heap.size≤w.heap.size+1+1:=by omega
 obtain⟨⟨z0,z1,z2⟩,-⟩:=blk3 hz
 unfold stN3 at z0 z1 z2
 refine bodyPost_ret (v:=.agg #[.slice ca t.length cc,.int .i64 n,.bool o]) (by simp [results,Tryz.results18,go_sem,z0,z1,z2]) rfl ?_
 exact⟨_,rfl,.inl ⟨rfl,rfl⟩,((HB.out.setCell hle _).setCell hle _).setCell hle _⟩

theorem clfeed_u {w:World} {v vt:Value} {t:List Row} {k s sh pr si:Int} {on:Bool} {c st:List UInt8} {sum:Nat} {tt:List Row} (hv:Tab w v t) (hvt:Tab w vt tt) (n:Int) (o:Bool) {F:Nat} (hsT:Hid (Short t)) (hsh:Hid (Short tt)) (hc:c.length≤4294967296) (hst:st.length≤4294967296) (_hk:(Lit.int .i64 k).wf=true) (HL:Hid (∀ {z:World} {B:Nat},FnMap z B kindFnsC→(Instr.lookup 97 (.map (some B)) (.int .i64 k) true).run Tryz.prog z=.ok (.tuple #[.func (.func F) #[] #[],.bool true]) z)) (hk4:¬ k=4) (hno:clTakes ⟨t,n,o⟩ ⟨k,s,on,c,⟨sh,pr,si,st⟩,sum,tt⟩=false) :
  Calls Tryz.prog 18 #[.agg #[v,.int .i64 n,.bool o],.agg #[.int .i64 k,.int .i64 s,.bool on,.string ⟨c.toArray⟩,.int .i64 sh,.int .i64 pr,.int .i64 si,.string ⟨st.toArray⟩,.int .u64 sum,vt]] w fun e w' => ∃ u,e=.returned (.agg #[u,.int .i64 n,.bool o])∧CT w' w.heap.size u v vt t t tt∧Below w.heap.size w w':=by
 obtain⟨ca,cc,rfl,-⟩:=hv.open'
 obtain⟨ta,tc,rfl,-⟩:=hvt.open'
 have VA:=hZq (fun X (hX:Below w.heap.size w X) => hv.later hX)
 have VT:=hZq (fun X (hX:Below w.heap.size w X) => hvt.later hX)
 have b0:=bl_newZ w (.cells #[.slice ca t.length cc,.int .i64 n,.bool o] 24)
 have b1:=bl_newZ (w.alloc (.cells #[.slice ca t.length cc,.int .i64 n,.bool o] 24)) (.cells #[.int .i64 k,.int .i64 s,.bool on,.string ⟨c.toArray⟩,.int .i64 sh,.int .i64 pr,.int .i64 si,.string ⟨st.toArray⟩,.int .u64 sum,.slice ta tt.length tc] 29)
 have b2:=bl_newZ ((w.alloc (.cells #[.slice ca t.length cc,.int .i64 n,.bool o] 24)).alloc (.cells #[.int .i64 k,.int .i64 s,.bool on,.string ⟨c.toArray⟩,.int .i64 sh,.int .i64 pr,.int .i64 si,.string ⟨st.toArray⟩,.int .u64 sum,.slice ta tt.length tc] 29)) (.cells #[.slice none 0 0,.int .i64 0,.bool false] 24)
 have HB:=hZq (below2Z (below2Z b0 b1) b2)
 have CB:=newQ w (.cells #[.slice ca t.length cc,.int .i64 n,.bool o] 24)
 replace CB:=upQ CB b1
 replace CB:=upQ CB b2
 replace CB:=hZq CB
 have FB:=newQ (w.alloc (.cells #[.slice ca t.length cc,.int .i64 n,.bool o] 24)) (.cells #[.int .i64 k,.int .i64 s,.bool on,.string ⟨c.toArray⟩,.int .i64 sh,.int .i64 pr,.int .i64 si,.string ⟨st.toArray⟩,.int .u64 sum,.slice ta tt.length tc] 29)
 rw [World.size_alloc] at FB
 replace FB:=upQ FB b2
 replace FB:=hZq FB
 have RB:=newQ ((w.alloc (.cells #[.slice ca t.length cc,.int .i64 n,.bool o] 24)).alloc (.cells #[.int .i64 k,.int .i64 s,.bool on,.string ⟨c.toArray⟩,.int .i64 sh,.int .i64 pr,.int .i64 si,.string ⟨st.toArray⟩,.int .u64 sum,.slice ta tt.length tc] 29)) (.cells #[.slice none 0 0,.int .i64 0,.bool false] 24)
 rw [World.size_alloc,World.size_alloc] at RB
 replace RB:=hZq RB
 clear b0 b1 b2
 clear hv hvt
 go_enter Tryz.func18,Tryz.ntmps18
 go_upto_region 1 with fail
 generalize ((w.alloc (.cells #[.slice ca t.length cc,.int .i64 n,.bool o] 24)).alloc (.cells #[.int .i64 k,.int .i64 s,.bool on,.string ⟨c.toArray⟩,.int .i64 sh,.int .i64 pr,.int .i64 si,.string ⟨st.toArray⟩,.int .u64 sum,.slice ta tt.length tc] 29)).alloc (.cells #[.slice none 0 0,.int .i64 0,.bool false] 24)=w4 at CB FB RB HB ⊢
 obtain⟨BS,hBS⟩ : ∃ BS:List (Nat × List Value),BS=[(w.heap.size,[.slice ca t.length cc,.int .i64 n,.bool o]),(w.heap.size+1,[.int .i64 k,.int .i64 s,.bool on,.string ⟨c.toArray⟩,.int .i64 sh,.int .i64 pr,.int .i64 si,.string ⟨st.toArray⟩,.int .u64 sum,.slice ta tt.length tc]),(w.heap.size+1+1,[.slice none 0 0,.int .i64 0,.bool false])]:=⟨_,rfl⟩
 have D0:=hZq (show heldB w4 BS from by rw [hBS]; exact heldB_cons (cellsAt_block CB.out) (heldB_cons (cellsAt_block FB.out) (heldB_cons (cellsAt_block RB.out) (heldB_nil _))))
 have hq0:∀ X,heldB X BS→X.cell? ⟨w.heap.size,0,none⟩=some (.slice ca t.length cc):=fun X hx => heldB_get (vs:=[.slice ca t.length cc,.int .i64 n,.bool o]) hx (by rw [hBS]; simp) rfl
 have hq1:∀ X,heldB X BS→X.cell? ⟨w.heap.size,1,none⟩=some (.int .i64 n):=fun X hx => heldB_get (vs:=[.slice ca t.length cc,.int .i64 n,.bool o]) hx (by rw [hBS]; simp) rfl
 have hq2:∀ X,heldB X BS→X.cell? ⟨w.heap.size,2,none⟩=some (.bool o):=fun X hx => heldB_get (vs:=[.slice ca t.length cc,.int .i64 n,.bool o]) hx (by rw [hBS]; simp) rfl
 have hq3:∀ X,heldB X BS→X.cell? ⟨w.heap.size+1,0,none⟩=some (.int .i64 k):=fun X hx => heldB_get (vs:=[.int .i64 k,.int .i64 s,.bool on,.string ⟨c.toArray⟩,.int .i64 sh,.int .i64 pr,.int .i64 si,.string ⟨st.toArray⟩,.int .u64 sum,.slice ta tt.length tc]) hx (by rw [hBS]; simp) rfl
 have hq4:∀ X,heldB X BS→X.cell? ⟨w.heap.size+1,1,none⟩=some (.int .i64 s):=fun X hx => heldB_get (vs:=[.int .i64 k,.int .i64 s,.bool on,.string ⟨c.toArray⟩,.int .i64 sh,.int .i64 pr,.int .i64 si,.string ⟨st.toArray⟩,.int .u64 sum,.slice ta tt.length tc]) hx (by rw [hBS]; simp) rfl
 have hq5:∀ X,heldB X BS→X.cell? ⟨w.heap.size+1,2,none⟩=some (.bool on):=fun X hx => heldB_get (vs:=[.int .i64 k,.int .i64 s,.bool on,.string ⟨c.toArray⟩,.int .i64 sh,.int .i64 pr,.int .i64 si,.string ⟨st.toArray⟩,.int .u64 sum,.slice ta tt.length tc]) hx (by rw [hBS]; simp) rfl
 have hq6:∀ X,heldB X BS→X.cell? ⟨w.heap.size+1,3,none⟩=some (.string ⟨c.toArray⟩):=fun X hx => heldB_get (vs:=[.int .i64 k,.int .i64 s,.bool on,.string ⟨c.toArray⟩,.int .i64 sh,.int .i64 pr,.int .i64 si,.string ⟨st.toArray⟩,.int .u64 sum,.slice ta tt.length tc]) hx (by rw [hBS]; simp) rfl
 have hq7:∀ X,heldB X BS→X.cell? ⟨w.heap.size+1,4,none⟩=some (.int .i64 sh):=fun X hx => heldB_get (vs:=[.int .i64 k,.int .i64 s,.bool on,.string ⟨c.toArray⟩,.int .i64 sh,.int .i64 pr,.int .i64 si,.string ⟨st.toArray⟩,.int .u64 sum,.slice ta tt.length tc]) hx (by rw [hBS]; simp) rfl
 have hq8:∀ X,heldB X BS→X.cell? ⟨w.heap.size+1,5,none⟩=some (.int .i64 pr):=fun X hx => heldB_get (vs:=[.int .i64 k,.int .i64 s,.bool on,.string ⟨c.toArray⟩,.int .i64 sh,.int .i64 pr,.int .i64 si,.string ⟨st.toArray⟩,.int .u64 sum,.slice ta tt.length tc]) hx (by rw [hBS]; simp) rfl
 have hq9:∀ X,heldB X BS→X.cell? ⟨w.heap.size+1,6,none⟩=some (.int .i64 si):=fun X hx => heldB_get (vs:=[.int .i64 k,.int .i64 s,.bool on,.string ⟨c.toArray⟩,.int .i64 sh,.int .i64 pr,.int .i64 si,.string ⟨st.toArray⟩,.int .u64 sum,.slice ta tt.length tc]) hx (by rw [hBS]; simp) rfl
 have hq10:∀ X,heldB X BS→X.cell? ⟨w.heap.size+1,7,none⟩=some (.string ⟨st.toArray⟩):=fun X hx => heldB_get (vs:=[.int .i64 k,.int .i64 s,.bool on,.string ⟨c.toArray⟩,.int .i64 sh,.int .i64 pr,.int .i64 si,.string ⟨st.toArray⟩,.int .u64 sum,.slice ta tt.length tc]) hx (by rw [hBS]; simp) rfl
 have hq11:∀ X,heldB X BS→X.cell? ⟨w.heap.size+1,8,none⟩=some (.int .u64 sum):=fun X hx => heldB_get (vs:=[.int .i64 k,.int .i64 s,.bool on,.string ⟨c.toArray⟩,.int .i64 sh,.int .i64 pr,.int .i64 si,.string ⟨st.toArray⟩,.int .u64 sum,.slice ta tt.length tc]) hx (by rw [hBS]; simp) rfl
 have hq12:∀ X,heldB X BS→X.cell? ⟨w.heap.size+1,9,none⟩=some (.slice ta tt.length tc):=fun X hx => heldB_get (vs:=[.int .i64 k,.int .i64 s,.bool on,.string ⟨c.toArray⟩,.int .i64 sh,.int .i64 pr,.int .i64 si,.string ⟨st.toArray⟩,.int .u64 sum,.slice ta tt.length tc]) hx (by rw [hBS]; simp) rfl
 have hq13:∀ X,heldB X BS→X.cell? ⟨w.heap.size+1+1,0,none⟩=some (.slice none 0 0):=fun X hx => heldB_get (vs:=[.slice none 0 0,.int .i64 0,.bool false]) hx (by rw [hBS]; simp) rfl
 have hq14:∀ X,heldB X BS→X.cell? ⟨w.heap.size+1+1,1,none⟩=some (.int .i64 0):=fun X hx => heldB_get (vs:=[.slice none 0 0,.int .i64 0,.bool false]) hx (by rw [hBS]; simp) rfl
 have hq15:∀ X,heldB X BS→X.cell? ⟨w.heap.size+1+1,2,none⟩=some (.bool false):=fun X hx => heldB_get (vs:=[.slice none 0 0,.int .i64 0,.bool false]) hx (by rw [hBS]; simp) rfl
 clear hBS
 have K0:Hid (Below w4.heap.size w4 w4.drew):=hZq (Below.refl _ _).drew
 refine wp_region_held_drew (S:=(fun X => heldB X BS)) (by kernel_rfl) ?_ (fun hHeld => ?_)
 ·exact heldB_up K0.out D0.out
 generalize w4.drew=z0 at K0 hHeld ⊢
 refine wpAnyH_take (i:=1) (oi:=⟨some 9,.fieldAddr 29 (.tmp 3) 0,0,"client.go:36",#[],none⟩) (v:=?_) rfl (by as_aux_lemma => kernel_rfl) (by as_aux_lemma => kernel_rfl) (by as_aux_lemma => kernel_rfl) (fun _ _ _ h => h) (Or.inl ⟨by rfl,?_⟩) (by assumption) ?_
 rotate_left
 ·intro w' hSw
  try dsimp only at hSw
  go_simp
  try with_reducible rfl
 try simp only [Act.put,List.setIfInBounds_toArray,List.set_cons_zero,List.set_cons_succ]
 refine wpAnyH_take (i:=2) (oi:=⟨some 10,.load 3 (.tmp 9),3,"client.go:36",#[⟨1,.data⟩],none⟩) (v:=?_) rfl (by as_aux_lemma => kernel_rfl) (by as_aux_lemma => kernel_rfl) (by as_aux_lemma => kernel_rfl) (fun _ _ _ h => h) (Or.inl ⟨by rfl,?_⟩) (by assumption) ?_
 rotate_left
 ·intro w' hSw
  try dsimp only at hSw
  go_simp
  try with_reducible rfl
 try simp only [Act.put,List.setIfInBounds_toArray,List.set_cons_zero,List.set_cons_succ]
 refine wpAnyH_ready (rs:=[0]) (by as_aux_lemma => kernel_rfl) (by simp) ?_
 refine AllReadyH.cons (o:=⟨some 8,.call { callee:=.value (.func 59),args:=#[],argTypes:=#[] },97,"client.go:36",#[],none⟩) rfl (fun Kx hK => ?_) AllReadyH.nil
 go_simp
 refine (kindsC_any _).mono ?_
 rintro e z1001 ⟨rfl,hfn,bz1001⟩
 have K1001:=hZq (below2Z K0.out bz1001)
 have D1001:=hZq (heldB_up K1001.out D0.out)
 have HFN:=hZq hfn
 clear hfn
 clear bz1001
 go_wp2_with fail
 refine hK.out _ _ ?_ (fun hHeld2 => ?_)
 ·exact D1001.out
 clear hK Kx hHeld
 have hHeld:=hHeld2
 clear hHeld2
 try simp only [Act.put,List.setIfInBounds_toArray,List.set_cons_zero,List.set_cons_succ]
 have hlk:=HL.out HFN.out
 refine wpAnyH_ready (rs:=[3]) (by as_aux_lemma => kernel_rfl) (by simp) ?_
 refine AllReadyH.cons (o:=⟨some 11,.lookup 97 (.tmp 8) (.tmp 10) true,96,"client.go:36",#[⟨0,.data⟩,⟨2,.data⟩],none⟩) rfl (fun Kx hK => ?_) AllReadyH.nil
 go_simp
 refine hK.out _ _ ?_ (fun hHeld2 => ?_)
 ·exact heldB_up (K1001.out) D0.out
 clear hK Kx hHeld hlk
 have hHeld:=hHeld2
 clear hHeld2
 try simp only [Act.put,List.setIfInBounds_toArray,List.set_cons_zero,List.set_cons_succ]
 refine wpAnyH_take (i:=4) (oi:=⟨some 7,.move (.tmp 11),96,"client.go:36",#[⟨3,.data⟩],none⟩) (v:=?_) rfl (by as_aux_lemma => kernel_rfl) (by as_aux_lemma => kernel_rfl) (by as_aux_lemma => kernel_rfl) (fun _ _ _ h => h) (Or.inl ⟨by rfl,?_⟩) (by assumption) ?_
 rotate_left
 ·intro w' hSw
  try dsimp only at hSw
  go_simp
  try with_reducible rfl
 try simp only [Act.put,List.setIfInBounds_toArray,List.set_cons_zero,List.set_cons_succ]
 refine wpAnyH_take (i:=5) (oi:=⟨some 12,.extract (.tmp 7) 0,36,"client.go:36",#[⟨4,.data⟩],none⟩) (v:=?_) rfl (by as_aux_lemma => kernel_rfl) (by as_aux_lemma => kernel_rfl) (by as_aux_lemma => kernel_rfl) (fun _ _ _ h => h) (Or.inl ⟨by rfl,?_⟩) (by assumption) ?_
 rotate_left
 ·intro w' hSw
  try dsimp only at hSw
  go_simp
  try with_reducible rfl
 try simp only [Act.put,List.setIfInBounds_toArray,List.set_cons_zero,List.set_cons_succ]
 refine wpAnyH_take (i:=6) (oi:=⟨some 13,.extract (.tmp 7) 1,4,"client.go:36",#[⟨4,.data⟩,⟨7,.gcOnly .lateStores⟩],none⟩) (v:=?_) rfl (by as_aux_lemma => kernel_rfl) (by as_aux_lemma => kernel_rfl) (by as_aux_lemma => kernel_rfl) (fun _ _ _ h => h) (Or.inl ⟨by rfl,?_⟩) (by assumption) ?_
 rotate_left
 ·intro w' hSw
  try dsimp only at hSw
  go_simp
  try with_reducible rfl
 try simp only [Act.put,List.setIfInBounds_toArray,List.set_cons_zero,List.set_cons_succ]
 refine wpAnyH_take (i:=7) (oi:=⟨some 5,.assign (.tmp 12),36,"client.go:36",#[⟨5,.data⟩,⟨0,.chain⟩,⟨0,.phase⟩,⟨1,.phase⟩,⟨2,.phase⟩,⟨3,.phase⟩,⟨4,.phase⟩,⟨5,.phase⟩,⟨6,.textOnly .lateStores⟩],none⟩) (v:=?_) rfl (by as_aux_lemma => kernel_rfl) (by as_aux_lemma => kernel_rfl) (by as_aux_lemma => kernel_rfl) (fun _ _ _ h => h) (Or.inl ⟨by rfl,?_⟩) (by assumption) ?_
 rotate_left
 ·intro w' hSw
  try dsimp only at hSw
  go_simp
  try with_reducible rfl
 try simp only [Act.put,List.setIfInBounds_toArray,List.set_cons_zero,List.set_cons_succ]
 refine wpAnyH_take (i:=8) (oi:=⟨some 6,.assign (.tmp 13),4,"client.go:36",#[⟨6,.data⟩,⟨7,.chain⟩,⟨0,.phase⟩,⟨1,.phase⟩,⟨2,.phase⟩,⟨3,.phase⟩,⟨4,.phase⟩,⟨5,.phase⟩,⟨6,.phase⟩,⟨7,.phase⟩],none⟩) (v:=?_) rfl (by as_aux_lemma => kernel_rfl) (by as_aux_lemma => kernel_rfl) (by as_aux_lemma => kernel_rfl) (fun _ _ _ h => h) (Or.inl ⟨by rfl,?_⟩) (by assumption) ?_
 rotate_left
 ·intro w' hSw
  try dsimp only at hSw
  go_simp
  try with_reducible rfl
 try simp only [Act.put,List.setIfInBounds_toArray,List.set_cons_zero,List.set_cons_succ]
 refine wpAnyH_done (by kernel_rfl) ?_ _
 replace CB:=hZq (upQ CB.out K1001.out)
 replace FB:=hZq (upQ FB.out K1001.out)
 replace RB:=hZq (upQ RB.out K1001.out)
 replace HB:=hZq (below2Z HB.out K1001.out)
 try clear hHeld
 try clear D0
 try clear K0
 clear HFN
 obtain⟨⟨FBc0,FBc1,FBc2,FBc3,FBc4,FBc5,FBc6,FBc7,FBc8,FBc9⟩,⟨FBf0,FBf1,FBf2,FBf3,FBf4,FBf5,FBf6,FBf7,FBf8,FBf9⟩⟩:=blk10 FB.out
 go_wp2_with fail
 clear FBc0 FBc1 FBc2 FBc3 FBc4 FBc5 FBc6 FBc7 FBc8 FBc9 FBf0 FBf1 FBf2 FBf3 FBf4 FBf5 FBf6 FBf7 FBf8 FBf9
 cases hm:frMay ⟨k,s,on,c,⟨sh,pr,si,st⟩,sum,tt⟩ with
 | false =>
  have HM:=hZq hm
  refine (frmay_eqF (VT.out _ HB.out) hsh.out hc hst HM).mono ?_
  rintro e w101 ⟨rfl,b101⟩
  replace CB:=hZq (upQ CB.out b101)
  replace FB:=hZq (upQ FB.out b101)
  replace RB:=hZq (upQ RB.out b101)
  replace HB:=hZq (below2Z HB.out b101)
  clear b101
  obtain⟨⟨CBc0,CBc1,CBc2⟩,⟨CBf0,CBf1,CBf2⟩⟩:=blk3 CB.out
  obtain⟨⟨RBc0,RBc1,RBc2⟩,⟨RBf0,RBf1,RBf2⟩⟩:=blk3 RB.out
  go_wp2_with fail
  clear CBc0 CBc1 CBc2 CBf0 CBf1 CBf2 RBc0 RBc1 RBc2 RBf0 RBf1 RBf2
  have hz:=stN3_heap RB.out (.slice ca t.length cc) (.int .i64 n) (.bool o)
  have hle:w.heap.size≤w.heap.size+1+1:=by omega
  obtain⟨⟨z0,z1,z2⟩,-⟩:=blk3 hz
  unfold stN3 at z0 z1 z2
  refine bodyPost_ret (v:=.agg #[.slice ca t.length cc,.int .i64 n,.bool o]) (by simp [results,Tryz.results18,go_sem,z0,z1,z2]) rfl ?_
  exact⟨_,rfl,.inl ⟨rfl,rfl⟩,((HB.out.setCell hle _).setCell hle _).setCell hle _⟩
 | true =>
  have HM:=hZq hm
  refine (frmay_eqF (VT.out _ HB.out) hsh.out hc hst HM).mono ?_
  rintro e w201 ⟨rfl,b201⟩
  replace CB:=hZq (upQ CB.out b201)
  replace FB:=hZq (upQ FB.out b201)
  replace RB:=hZq (upQ RB.out b201)
  replace HB:=hZq (below2Z HB.out b201)
  clear b201
  obtain⟨⟨CBc0,CBc1,CBc2⟩,⟨CBf0,CBf1,CBf2⟩⟩:=blk3 CB.out
  go_wp2_with fail
  clear CBc0 CBc1 CBc2 CBf0 CBf1 CBf2
  cases hcm:clMay ⟨t,n,o⟩ with
  | false =>
   have HC:=hZq hcm
   refine (clmay_eq (VA.out _ HB.out) hsT.out n o HC).mono ?_
   rintro e w301 ⟨rfl,b301⟩
   replace CB:=hZq (upQ CB.out b301)
   replace FB:=hZq (upQ FB.out b301)
   replace RB:=hZq (upQ RB.out b301)
   replace HB:=hZq (below2Z HB.out b301)
   clear b301
   obtain⟨⟨CBc0,CBc1,CBc2⟩,⟨CBf0,CBf1,CBf2⟩⟩:=blk3 CB.out
   obtain⟨⟨RBc0,RBc1,RBc2⟩,⟨RBf0,RBf1,RBf2⟩⟩:=blk3 RB.out
   go_wp2_with fail
   clear CBc0 CBc1 CBc2 CBf0 CBf1 CBf2 RBc0 RBc1 RBc2 RBf0 RBf1 RBf2
   have hz:=stN3_heap RB.out (.slice ca t.length cc) (.int .i64 n) (.bool o)
   have hle:w.heap.size≤w.heap.size+1+1:=by omega
   obtain⟨⟨z0,z1,z2⟩,-⟩:=blk3 hz
   unfold stN3 at z0 z1 z2
   refine bodyPost_ret (v:=.agg #[.slice ca t.length cc,.int .i64 n,.bool o]) (by simp [results,Tryz.results18,go_sem,z0,z1,z2]) rfl ?_
   exact⟨_,rfl,.inl ⟨rfl,rfl⟩,((HB.out.setCell hle _).setCell hle _).setCell hle _⟩
  | true =>
   have HC:=hZq hcm
   have hlt:s < n:=by
    by_cases h:s < n
    ·exact h
    ·rw [clTakes_of hm hk4 hcm (show n≤s by omega)] at hno; cases hno
   have g1:decide (s < n)=true:=by rw [decide_eq_true_eq]; exact hlt
   clear hlt
   refine (clmay_eq (VA.out _ HB.out) hsT.out n o HC).mono ?_
   rintro e w401 ⟨rfl,b401⟩
   replace CB:=hZq (upQ CB.out b401)
   replace FB:=hZq (upQ FB.out b401)
   replace RB:=hZq (upQ RB.out b401)
   replace HB:=hZq (below2Z HB.out b401)
   clear b401
   obtain⟨⟨FBc0,FBc1,FBc2,FBc3,FBc4,FBc5,FBc6,FBc7,FBc8,FBc9⟩,⟨FBf0,FBf1,FBf2,FBf3,FBf4,FBf5,FBf6,FBf7,FBf8,FBf9⟩⟩:=blk10 FB.out
   obtain⟨⟨CBc0,CBc1,CBc2⟩,⟨CBf0,CBf1,CBf2⟩⟩:=blk3 CB.out
   obtain⟨⟨RBc0,RBc1,RBc2⟩,⟨RBf0,RBf1,RBf2⟩⟩:=blk3 RB.out
   go_wp2_with fail
   clear FBc0 FBc1 FBc2 FBc3 FBc4 FBc5 FBc6 FBc7 FBc8 FBc9 FBf0 FBf1 FBf2 FBf3 FBf4 FBf5 FBf6 FBf7 FBf8 FBf9 CBc0 CBc1 CBc2 CBf0 CBf1 CBf2 RBc0 RBc1 RBc2 RBf0 RBf1 RBf2
   have hz:=stN3_heap RB.out (.slice ca t.length cc) (.int .i64 n) (.bool o)
   have hle:w.heap.size≤w.heap.size+1+1:=by omega
   obtain⟨⟨z0,z1,z2⟩,-⟩:=blk3 hz
   unfold stN3 at z0 z1 z2
   refine bodyPost_ret (v:=.agg #[.slice ca t.length cc,.int .i64 n,.bool o]) (by simp [results,Tryz.results18,go_sem,z0,z1,z2]) rfl ?_
   exact⟨_,rfl,.inl ⟨rfl,rfl⟩,((HB.out.setCell hle _).setCell hle _).setCell hle _⟩

theorem clfeed_do1 {w:World} {v vt:Value} {t:List Row} {k s sh pr si:Int} {on:Bool} {c st:List UInt8} {sum:Nat} {tt:List Row} (hv:Tab w v t) (hvt:Tab w vt tt) (n:Int) {F:Nat} (HF:∀ (xs:Array Value) (X:World),(callFunc F xs).run Tryz.prog X=.ok (.enter F xs) X) (hsT:Hid (Short t)) (hsh:Hid (Short tt)) (hc:c.length≤4294967296) (hst:st.length≤4294967296) (_hk:(Lit.int .i64 k).wf=true) (HL:Hid (∀ {z:World} {B:Nat},FnMap z B kindFnsC→(Instr.lookup 97 (.map (some B)) (.int .i64 k) true).run Tryz.prog z=.ok (.tuple #[.func (.func F) #[] #[],.bool true]) z)) (HM:Hid (frMay ⟨k,s,on,c,⟨sh,pr,si,st⟩,sum,tt⟩=true)) (HC:Hid (clMay ⟨t,n,true⟩=true)) (hns:n≤s∧0≤s∧s≤1099511627776) {t2:List Row} {n2:Int} {o2:Bool}
  (HD:Hid (∀ X,Below w.heap.size w X→Calls Tryz.prog F #[.agg #[v,.int .i64 (s+1),.bool true],.agg #[.int .i64 k,.int .i64 s,.bool on,.string ⟨c.toArray⟩,.int .i64 sh,.int .i64 pr,.int .i64 si,.string ⟨st.toArray⟩,.int .u64 sum,vt]] X fun e X' => ∃ u,e=.returned (.agg #[u,.int .i64 n2,.bool o2])∧CT X' X.heap.size u v vt t2 t tt∧Below X.heap.size X X')) :
  Calls Tryz.prog 18 #[.agg #[v,.int .i64 n,.bool true],.agg #[.int .i64 k,.int .i64 s,.bool on,.string ⟨c.toArray⟩,.int .i64 sh,.int .i64 pr,.int .i64 si,.string ⟨st.toArray⟩,.int .u64 sum,vt]] w fun e w' => ∃ u,e=.returned (.agg #[u,.int .i64 n2,.bool o2])∧CT w' w.heap.size u v vt t2 t tt∧Below w.heap.size w w':=by
 have g1:decide (s < n)=false:=by rw [decide_eq_false_iff_not]; omega
 have hw:IntKind.i64.wrap (s+1)=s+1:=IntWalk.i64_in _ (by omega)
 clear hns
 obtain⟨ca,cc,rfl,-⟩:=hv.open'
 obtain⟨ta,tc,rfl,-⟩:=hvt.open'
 have VA:=hZq (fun X (hX:Below w.heap.size w X) => hv.later hX)
 have VT:=hZq (fun X (hX:Below w.heap.size w X) => hvt.later hX)
 have b0:=bl_newZ w (.cells #[.slice ca t.length cc,.int .i64 n,.bool true] 24)
 have b1:=bl_newZ (w.alloc (.cells #[.slice ca t.length cc,.int .i64 n,.bool true] 24)) (.cells #[.int .i64 k,.int .i64 s,.bool on,.string ⟨c.toArray⟩,.int .i64 sh,.int .i64 pr,.int .i64 si,.string ⟨st.toArray⟩,.int .u64 sum,.slice ta tt.length tc] 29)
 have b2:=bl_newZ ((w.alloc (.cells #[.slice ca t.length cc,.int .i64 n,.bool true] 24)).alloc (.cells #[.int .i64 k,.int .i64 s,.bool on,.string ⟨c.toArray⟩,.int .i64 sh,.int .i64 pr,.int .i64 si,.string ⟨st.toArray⟩,.int .u64 sum,.slice ta tt.length tc] 29)) (.cells #[.slice none 0 0,.int .i64 0,.bool false] 24)
 have HB:=hZq (below2Z (below2Z b0 b1) b2)
 have CB:=newQ w (.cells #[.slice ca t.length cc,.int .i64 n,.bool true] 24)
 replace CB:=upQ CB b1
 replace CB:=upQ CB b2
 replace CB:=hZq CB
 have FB:=newQ (w.alloc (.cells #[.slice ca t.length cc,.int .i64 n,.bool true] 24)) (.cells #[.int .i64 k,.int .i64 s,.bool on,.string ⟨c.toArray⟩,.int .i64 sh,.int .i64 pr,.int .i64 si,.string ⟨st.toArray⟩,.int .u64 sum,.slice ta tt.length tc] 29)
 rw [World.size_alloc] at FB
 replace FB:=upQ FB b2
 replace FB:=hZq FB
 have RB:=newQ ((w.alloc (.cells #[.slice ca t.length cc,.int .i64 n,.bool true] 24)).alloc (.cells #[.int .i64 k,.int .i64 s,.bool on,.string ⟨c.toArray⟩,.int .i64 sh,.int .i64 pr,.int .i64 si,.string ⟨st.toArray⟩,.int .u64 sum,.slice ta tt.length tc] 29)) (.cells #[.slice none 0 0,.int .i64 0,.bool false] 24)
 rw [World.size_alloc,World.size_alloc] at RB
 replace RB:=hZq RB
 clear b0 b1 b2
 clear hv hvt
 go_enter Tryz.func18,Tryz.ntmps18
 go_upto_region 1 with fail
 generalize ((w.alloc (.cells #[.slice ca t.length cc,.int .i64 n,.bool true] 24)).alloc (.cells #[.int .i64 k,.int .i64 s,.bool on,.string ⟨c.toArray⟩,.int .i64 sh,.int .i64 pr,.int .i64 si,.string ⟨st.toArray⟩,.int .u64 sum,.slice ta tt.length tc] 29)).alloc (.cells #[.slice none 0 0,.int .i64 0,.bool false] 24)=w4 at CB FB RB HB ⊢
 obtain⟨BS,hBS⟩ : ∃ BS:List (Nat × List Value),BS=[(w.heap.size,[.slice ca t.length cc,.int .i64 n,.bool true]),(w.heap.size+1,[.int .i64 k,.int .i64 s,.bool on,.string ⟨c.toArray⟩,.int .i64 sh,.int .i64 pr,.int .i64 si,.string ⟨st.toArray⟩,.int .u64 sum,.slice ta tt.length tc]),(w.heap.size+1+1,[.slice none 0 0,.int .i64 0,.bool false])]:=⟨_,rfl⟩
 have D0:=hZq (show heldB w4 BS from by rw [hBS]; exact heldB_cons (cellsAt_block CB.out) (heldB_cons (cellsAt_block FB.out) (heldB_cons (cellsAt_block RB.out) (heldB_nil _))))
 have hq0:∀ X,heldB X BS→X.cell? ⟨w.heap.size,0,none⟩=some (.slice ca t.length cc):=fun X hx => heldB_get (vs:=[.slice ca t.length cc,.int .i64 n,.bool true]) hx (by rw [hBS]; simp) rfl
 have hq1:∀ X,heldB X BS→X.cell? ⟨w.heap.size,1,none⟩=some (.int .i64 n):=fun X hx => heldB_get (vs:=[.slice ca t.length cc,.int .i64 n,.bool true]) hx (by rw [hBS]; simp) rfl
 have hq2:∀ X,heldB X BS→X.cell? ⟨w.heap.size,2,none⟩=some (.bool true):=fun X hx => heldB_get (vs:=[.slice ca t.length cc,.int .i64 n,.bool true]) hx (by rw [hBS]; simp) rfl
 have hq3:∀ X,heldB X BS→X.cell? ⟨w.heap.size+1,0,none⟩=some (.int .i64 k):=fun X hx => heldB_get (vs:=[.int .i64 k,.int .i64 s,.bool on,.string ⟨c.toArray⟩,.int .i64 sh,.int .i64 pr,.int .i64 si,.string ⟨st.toArray⟩,.int .u64 sum,.slice ta tt.length tc]) hx (by rw [hBS]; simp) rfl
 have hq4:∀ X,heldB X BS→X.cell? ⟨w.heap.size+1,1,none⟩=some (.int .i64 s):=fun X hx => heldB_get (vs:=[.int .i64 k,.int .i64 s,.bool on,.string ⟨c.toArray⟩,.int .i64 sh,.int .i64 pr,.int .i64 si,.string ⟨st.toArray⟩,.int .u64 sum,.slice ta tt.length tc]) hx (by rw [hBS]; simp) rfl
 have hq5:∀ X,heldB X BS→X.cell? ⟨w.heap.size+1,2,none⟩=some (.bool on):=fun X hx => heldB_get (vs:=[.int .i64 k,.int .i64 s,.bool on,.string ⟨c.toArray⟩,.int .i64 sh,.int .i64 pr,.int .i64 si,.string ⟨st.toArray⟩,.int .u64 sum,.slice ta tt.length tc]) hx (by rw [hBS]; simp) rfl
 have hq6:∀ X,heldB X BS→X.cell? ⟨w.heap.size+1,3,none⟩=some (.string ⟨c.toArray⟩):=fun X hx => heldB_get (vs:=[.int .i64 k,.int .i64 s,.bool on,.string ⟨c.toArray⟩,.int .i64 sh,.int .i64 pr,.int .i64 si,.string ⟨st.toArray⟩,.int .u64 sum,.slice ta tt.length tc]) hx (by rw [hBS]; simp) rfl
 have hq7:∀ X,heldB X BS→X.cell? ⟨w.heap.size+1,4,none⟩=some (.int .i64 sh):=fun X hx => heldB_get (vs:=[.int .i64 k,.int .i64 s,.bool on,.string ⟨c.toArray⟩,.int .i64 sh,.int .i64 pr,.int .i64 si,.string ⟨st.toArray⟩,.int .u64 sum,.slice ta tt.length tc]) hx (by rw [hBS]; simp) rfl
 have hq8:∀ X,heldB X BS→X.cell? ⟨w.heap.size+1,5,none⟩=some (.int .i64 pr):=fun X hx => heldB_get (vs:=[.int .i64 k,.int .i64 s,.bool on,.string ⟨c.toArray⟩,.int .i64 sh,.int .i64 pr,.int .i64 si,.string ⟨st.toArray⟩,.int .u64 sum,.slice ta tt.length tc]) hx (by rw [hBS]; simp) rfl
 have hq9:∀ X,heldB X BS→X.cell? ⟨w.heap.size+1,6,none⟩=some (.int .i64 si):=fun X hx => heldB_get (vs:=[.int .i64 k,.int .i64 s,.bool on,.string ⟨c.toArray⟩,.int .i64 sh,.int .i64 pr,.int .i64 si,.string ⟨st.toArray⟩,.int .u64 sum,.slice ta tt.length tc]) hx (by rw [hBS]; simp) rfl
 have hq10:∀ X,heldB X BS→X.cell? ⟨w.heap.size+1,7,none⟩=some (.string ⟨st.toArray⟩):=fun X hx => heldB_get (vs:=[.int .i64 k,.int .i64 s,.bool on,.string ⟨c.toArray⟩,.int .i64 sh,.int .i64 pr,.int .i64 si,.string ⟨st.toArray⟩,.int .u64 sum,.slice ta tt.length tc]) hx (by rw [hBS]; simp) rfl
 have hq11:∀ X,heldB X BS→X.cell? ⟨w.heap.size+1,8,none⟩=some (.int .u64 sum):=fun X hx => heldB_get (vs:=[.int .i64 k,.int .i64 s,.bool on,.string ⟨c.toArray⟩,.int .i64 sh,.int .i64 pr,.int .i64 si,.string ⟨st.toArray⟩,.int .u64 sum,.slice ta tt.length tc]) hx (by rw [hBS]; simp) rfl
 have hq12:∀ X,heldB X BS→X.cell? ⟨w.heap.size+1,9,none⟩=some (.slice ta tt.length tc):=fun X hx => heldB_get (vs:=[.int .i64 k,.int .i64 s,.bool on,.string ⟨c.toArray⟩,.int .i64 sh,.int .i64 pr,.int .i64 si,.string ⟨st.toArray⟩,.int .u64 sum,.slice ta tt.length tc]) hx (by rw [hBS]; simp) rfl
 have hq13:∀ X,heldB X BS→X.cell? ⟨w.heap.size+1+1,0,none⟩=some (.slice none 0 0):=fun X hx => heldB_get (vs:=[.slice none 0 0,.int .i64 0,.bool false]) hx (by rw [hBS]; simp) rfl
 have hq14:∀ X,heldB X BS→X.cell? ⟨w.heap.size+1+1,1,none⟩=some (.int .i64 0):=fun X hx => heldB_get (vs:=[.slice none 0 0,.int .i64 0,.bool false]) hx (by rw [hBS]; simp) rfl
 have hq15:∀ X,heldB X BS→X.cell? ⟨w.heap.size+1+1,2,none⟩=some (.bool false):=fun X hx => heldB_get (vs:=[.slice none 0 0,.int .i64 0,.bool false]) hx (by rw [hBS]; simp) rfl
 clear hBS
 have K0:Hid (Below w4.heap.size w4 w4.drew):=hZq (Below.refl _ _).drew
 refine wp_region_held_drew (S:=(fun X => heldB X BS)) (by kernel_rfl) ?_ (fun hHeld => ?_)
 ·exact heldB_up K0.out D0.out
 generalize w4.drew=z0 at K0 hHeld ⊢
 refine wpAnyH_take (i:=1) (oi:=⟨some 9,.fieldAddr 29 (.tmp 3) 0,0,"client.go:36",#[],none⟩) (v:=?_) rfl (by as_aux_lemma => kernel_rfl) (by as_aux_lemma => kernel_rfl) (by as_aux_lemma => kernel_rfl) (fun _ _ _ h => h) (Or.inl ⟨by rfl,?_⟩) (by assumption) ?_
 rotate_left
 ·intro w' hSw
  try dsimp only at hSw
  go_simp
  try with_reducible rfl
 try simp only [Act.put,List.setIfInBounds_toArray,List.set_cons_zero,List.set_cons_succ]
 refine wpAnyH_take (i:=2) (oi:=⟨some 10,.load 3 (.tmp 9),3,"client.go:36",#[⟨1,.data⟩],none⟩) (v:=?_) rfl (by as_aux_lemma => kernel_rfl) (by as_aux_lemma => kernel_rfl) (by as_aux_lemma => kernel_rfl) (fun _ _ _ h => h) (Or.inl ⟨by rfl,?_⟩) (by assumption) ?_
 rotate_left
 ·intro w' hSw
  try dsimp only at hSw
  go_simp
  try with_reducible rfl
 try simp only [Act.put,List.setIfInBounds_toArray,List.set_cons_zero,List.set_cons_succ]
 refine wpAnyH_ready (rs:=[0]) (by as_aux_lemma => kernel_rfl) (by simp) ?_
 refine AllReadyH.cons (o:=⟨some 8,.call { callee:=.value (.func 59),args:=#[],argTypes:=#[] },97,"client.go:36",#[],none⟩) rfl (fun Kx hK => ?_) AllReadyH.nil
 go_simp
 refine (kindsC_any _).mono ?_
 rintro e z1001 ⟨rfl,hfn,bz1001⟩
 have K1001:=hZq (below2Z K0.out bz1001)
 have D1001:=hZq (heldB_up K1001.out D0.out)
 have HFN:=hZq hfn
 clear hfn
 clear bz1001
 go_wp2_with fail
 refine hK.out _ _ ?_ (fun hHeld2 => ?_)
 ·exact D1001.out
 clear hK Kx hHeld
 have hHeld:=hHeld2
 clear hHeld2
 try simp only [Act.put,List.setIfInBounds_toArray,List.set_cons_zero,List.set_cons_succ]
 have hlk:=HL.out HFN.out
 refine wpAnyH_ready (rs:=[3]) (by as_aux_lemma => kernel_rfl) (by simp) ?_
 refine AllReadyH.cons (o:=⟨some 11,.lookup 97 (.tmp 8) (.tmp 10) true,96,"client.go:36",#[⟨0,.data⟩,⟨2,.data⟩],none⟩) rfl (fun Kx hK => ?_) AllReadyH.nil
 go_simp
 refine hK.out _ _ ?_ (fun hHeld2 => ?_)
 ·exact heldB_up (K1001.out) D0.out
 clear hK Kx hHeld hlk
 have hHeld:=hHeld2
 clear hHeld2
 try simp only [Act.put,List.setIfInBounds_toArray,List.set_cons_zero,List.set_cons_succ]
 refine wpAnyH_take (i:=4) (oi:=⟨some 7,.move (.tmp 11),96,"client.go:36",#[⟨3,.data⟩],none⟩) (v:=?_) rfl (by as_aux_lemma => kernel_rfl) (by as_aux_lemma => kernel_rfl) (by as_aux_lemma => kernel_rfl) (fun _ _ _ h => h) (Or.inl ⟨by rfl,?_⟩) (by assumption) ?_
 rotate_left
 ·intro w' hSw
  try dsimp only at hSw
  go_simp
  try with_reducible rfl
 try simp only [Act.put,List.setIfInBounds_toArray,List.set_cons_zero,List.set_cons_succ]
 refine wpAnyH_take (i:=5) (oi:=⟨some 12,.extract (.tmp 7) 0,36,"client.go:36",#[⟨4,.data⟩],none⟩) (v:=?_) rfl (by as_aux_lemma => kernel_rfl) (by as_aux_lemma => kernel_rfl) (by as_aux_lemma => kernel_rfl) (fun _ _ _ h => h) (Or.inl ⟨by rfl,?_⟩) (by assumption) ?_
 rotate_left
 ·intro w' hSw
  try dsimp only at hSw
  go_simp
  try with_reducible rfl
 try simp only [Act.put,List.setIfInBounds_toArray,List.set_cons_zero,List.set_cons_succ]
 refine wpAnyH_take (i:=6) (oi:=⟨some 13,.extract (.tmp 7) 1,4,"client.go:36",#[⟨4,.data⟩,⟨7,.gcOnly .lateStores⟩],none⟩) (v:=?_) rfl (by as_aux_lemma => kernel_rfl) (by as_aux_lemma => kernel_rfl) (by as_aux_lemma => kernel_rfl) (fun _ _ _ h => h) (Or.inl ⟨by rfl,?_⟩) (by assumption) ?_
 rotate_left
 ·intro w' hSw
  try dsimp only at hSw
  go_simp
  try with_reducible rfl
 try simp only [Act.put,List.setIfInBounds_toArray,List.set_cons_zero,List.set_cons_succ]
 refine wpAnyH_take (i:=7) (oi:=⟨some 5,.assign (.tmp 12),36,"client.go:36",#[⟨5,.data⟩,⟨0,.chain⟩,⟨0,.phase⟩,⟨1,.phase⟩,⟨2,.phase⟩,⟨3,.phase⟩,⟨4,.phase⟩,⟨5,.phase⟩,⟨6,.textOnly .lateStores⟩],none⟩) (v:=?_) rfl (by as_aux_lemma => kernel_rfl) (by as_aux_lemma => kernel_rfl) (by as_aux_lemma => kernel_rfl) (fun _ _ _ h => h) (Or.inl ⟨by rfl,?_⟩) (by assumption) ?_
 rotate_left
 ·intro w' hSw
  try dsimp only at hSw
  go_simp
  try with_reducible rfl
 try simp only [Act.put,List.setIfInBounds_toArray,List.set_cons_zero,List.set_cons_succ]
 refine wpAnyH_take (i:=8) (oi:=⟨some 6,.assign (.tmp 13),4,"client.go:36",#[⟨6,.data⟩,⟨7,.chain⟩,⟨0,.phase⟩,⟨1,.phase⟩,⟨2,.phase⟩,⟨3,.phase⟩,⟨4,.phase⟩,⟨5,.phase⟩,⟨6,.phase⟩,⟨7,.phase⟩],none⟩) (v:=?_) rfl (by as_aux_lemma => kernel_rfl) (by as_aux_lemma => kernel_rfl) (by as_aux_lemma => kernel_rfl) (fun _ _ _ h => h) (Or.inl ⟨by rfl,?_⟩) (by assumption) ?_
 rotate_left
 ·intro w' hSw
  try dsimp only at hSw
  go_simp
  try with_reducible rfl
 try simp only [Act.put,List.setIfInBounds_toArray,List.set_cons_zero,List.set_cons_succ]
 refine wpAnyH_done (by kernel_rfl) ?_ _
 replace CB:=hZq (upQ CB.out K1001.out)
 replace FB:=hZq (upQ FB.out K1001.out)
 replace RB:=hZq (upQ RB.out K1001.out)
 replace HB:=hZq (below2Z HB.out K1001.out)
 try clear hHeld
 try clear D0
 try clear K0
 clear HFN
 obtain⟨⟨FBc0,FBc1,FBc2,FBc3,FBc4,FBc5,FBc6,FBc7,FBc8,FBc9⟩,⟨FBf0,FBf1,FBf2,FBf3,FBf4,FBf5,FBf6,FBf7,FBf8,FBf9⟩⟩:=blk10 FB.out
 go_wp2_with fail
 clear FBc0 FBc1 FBc2 FBc3 FBc4 FBc5 FBc6 FBc7 FBc8 FBc9 FBf0 FBf1 FBf2 FBf3 FBf4 FBf5 FBf6 FBf7 FBf8 FBf9
 refine (frmay_eqF (VT.out _ HB.out) hsh.out hc hst HM).mono ?_
 rintro e w5 ⟨rfl,b5⟩
 replace CB:=hZq (upQ CB.out b5)
 replace FB:=hZq (upQ FB.out b5)
 replace RB:=hZq (upQ RB.out b5)
 replace HB:=hZq (below2Z HB.out b5)
 clear b5
 obtain⟨⟨CBc0,CBc1,CBc2⟩,⟨CBf0,CBf1,CBf2⟩⟩:=blk3 CB.out
 go_wp2_with fail
 clear CBc0 CBc1 CBc2 CBf0 CBf1 CBf2
 refine (clmay_eq (VA.out _ HB.out) hsT.out n true HC).mono ?_
 rintro e w6 ⟨rfl,b6⟩
 replace CB:=hZq (upQ CB.out b6)
 replace FB:=hZq (upQ FB.out b6)
 replace RB:=hZq (upQ RB.out b6)
 replace HB:=hZq (below2Z HB.out b6)
 clear b6
 obtain⟨⟨CBc0,CBc1,CBc2⟩,⟨CBf0,CBf1,CBf2⟩⟩:=blk3 CB.out
 obtain⟨⟨FBc0,FBc1,FBc2,FBc3,FBc4,FBc5,FBc6,FBc7,FBc8,FBc9⟩,⟨FBf0,FBf1,FBf2,FBf3,FBf4,FBf5,FBf6,FBf7,FBf8,FBf9⟩⟩:=blk10 FB.out
 go_upto_region 5 with fail
 clear CBc0 CBc1 CBc2 CBf0 CBf1 CBf2 FBc0 FBc1 FBc2 FBc3 FBc4 FBc5 FBc6 FBc7 FBc8 FBc9 FBf0 FBf1 FBf2 FBf3 FBf4 FBf5 FBf6 FBf7 FBf8 FBf9
 have CBz:Hid ((w6.setCell ⟨w.heap.size,2,none⟩ (.bool true)).heap[w.heap.size]?=some (.cells #[.slice ca t.length cc,.int .i64 n,.bool true] 24 (0,0))):=hZq (heap_setCell_same w6 w.heap.size 2 _ _ (.bool true) CB.out)
 have FBz:Hid ((w6.setCell ⟨w.heap.size,2,none⟩ (.bool true)).heap[w.heap.size+1]?=some (.cells #[.int .i64 k,.int .i64 s,.bool on,.string ⟨c.toArray⟩,.int .i64 sh,.int .i64 pr,.int .i64 si,.string ⟨st.toArray⟩,.int .u64 sum,.slice ta tt.length tc] 29 (0,0))):=hZq ((Below.heap_setCell _ _ _ (w.heap.size+1) (show ¬ w.heap.size+1=w.heap.size by omega)).trans FB.out)
 have RBz:Hid ((w6.setCell ⟨w.heap.size,2,none⟩ (.bool true)).heap[w.heap.size+1+1]?=some (.cells #[.slice none 0 0,.int .i64 0,.bool false] 24 (0,0))):=hZq ((Below.heap_setCell _ _ _ (w.heap.size+1+1) (show ¬ w.heap.size+1+1=w.heap.size by omega)).trans RB.out)
 have HBz:Hid (Below w.heap.size w (w6.setCell ⟨w.heap.size,2,none⟩ (.bool true))):=hZq (HB.out.setCell (show w.heap.size≤w.heap.size by omega) _)
 clear HB CB FB RB
 generalize w6.setCell ⟨w.heap.size,2,none⟩ (.bool true)=w7 at CBz FBz RBz HBz ⊢
 have CB:=CBz
 clear CBz
 have FB:=FBz
 clear FBz
 have RB:=RBz
 clear RBz
 have HB:=HBz
 clear HBz
 obtain⟨⟨CBc0,CBc1,CBc2⟩,⟨CBf0,CBf1,CBf2⟩⟩:=blk3 CB.out
 obtain⟨⟨FBc0,FBc1,FBc2,FBc3,FBc4,FBc5,FBc6,FBc7,FBc8,FBc9⟩,⟨FBf0,FBf1,FBf2,FBf3,FBf4,FBf5,FBf6,FBf7,FBf8,FBf9⟩⟩:=blk10 FB.out
 go_upto_region 6 with fail
 clear CBc0 CBc1 CBc2 CBf0 CBf1 CBf2 FBc0 FBc1 FBc2 FBc3 FBc4 FBc5 FBc6 FBc7 FBc8 FBc9 FBf0 FBf1 FBf2 FBf3 FBf4 FBf5 FBf6 FBf7 FBf8 FBf9
 have CBz:Hid ((w7.setCell ⟨w.heap.size,1,none⟩ (.int .i64 (s+1))).heap[w.heap.size]?=some (.cells #[.slice ca t.length cc,.int .i64 (s+1),.bool true] 24 (0,0))):=hZq (heap_setCell_same w7 w.heap.size 1 _ _ (.int .i64 (s+1)) CB.out)
 have FBz:Hid ((w7.setCell ⟨w.heap.size,1,none⟩ (.int .i64 (s+1))).heap[w.heap.size+1]?=some (.cells #[.int .i64 k,.int .i64 s,.bool on,.string ⟨c.toArray⟩,.int .i64 sh,.int .i64 pr,.int .i64 si,.string ⟨st.toArray⟩,.int .u64 sum,.slice ta tt.length tc] 29 (0,0))):=hZq ((Below.heap_setCell _ _ _ (w.heap.size+1) (show ¬ w.heap.size+1=w.heap.size by omega)).trans FB.out)
 have RBz:Hid ((w7.setCell ⟨w.heap.size,1,none⟩ (.int .i64 (s+1))).heap[w.heap.size+1+1]?=some (.cells #[.slice none 0 0,.int .i64 0,.bool false] 24 (0,0))):=hZq ((Below.heap_setCell _ _ _ (w.heap.size+1+1) (show ¬ w.heap.size+1+1=w.heap.size by omega)).trans RB.out)
 have HBz:Hid (Below w.heap.size w (w7.setCell ⟨w.heap.size,1,none⟩ (.int .i64 (s+1)))):=hZq (HB.out.setCell (show w.heap.size≤w.heap.size by omega) _)
 clear HB CB FB RB
 generalize w7.setCell ⟨w.heap.size,1,none⟩ (.int .i64 (s+1))=w8 at CBz FBz RBz HBz ⊢
 have CB:=CBz
 clear CBz
 have FB:=FBz
 clear FBz
 have RB:=RBz
 clear RBz
 have HB:=HBz
 clear HBz
 obtain⟨⟨CBc0,CBc1,CBc2⟩,⟨CBf0,CBf1,CBf2⟩⟩:=blk3 CB.out
 obtain⟨⟨FBc0,FBc1,FBc2,FBc3,FBc4,FBc5,FBc6,FBc7,FBc8,FBc9⟩,⟨FBf0,FBf1,FBf2,FBf3,FBf4,FBf5,FBf6,FBf7,FBf8,FBf9⟩⟩:=blk10 FB.out
 go_wp2_with fail
 clear CBc0 CBc1 CBc2 CBf0 CBf1 CBf2 FBc0 FBc1 FBc2 FBc3 FBc4 FBc5 FBc6 FBc7 FBc8 FBc9 FBf0 FBf1 FBf2 FBf3 FBf4 FBf5 FBf6 FBf7 FBf8 FBf9
 have hRB:=(Array.getElem?_eq_some_iff.1 RB.out).1
 refine (HD.out _ HB.out).mono ?_
 rintro e w9 ⟨u9,rfl,hu9,b9⟩
 replace CB:=hZq (upQ CB.out b9)
 replace FB:=hZq (upQ FB.out b9)
 replace RB:=hZq (upQ RB.out b9)
 replace HB:=hZq (below2Z HB.out b9)
 obtain⟨ua,un,uc,rfl⟩:=hu9.shape
 have U:=hZq (CT.mono hu9 (show w.heap.size+1+1+1≤_ from hRB))
 clear hu9 hRB
 clear b9
 obtain⟨⟨RBc0,RBc1,RBc2⟩,⟨RBf0,RBf1,RBf2⟩⟩:=blk3 RB.out
 go_wp2_with fail
 clear RBc0 RBc1 RBc2 RBf0 RBf1 RBf2
 have hz:=stN3_heap RB.out (.slice ua un uc) (.int .i64 n2) (.bool o2)
 have hle:w.heap.size≤w.heap.size+1+1:=by omega
 obtain⟨⟨z0,z1,z2⟩,-⟩:=blk3 hz
 unfold stN3 at z0 z1 z2
 refine bodyPost_ret (v:=.agg #[.slice ua un uc,.int .i64 n2,.bool o2]) (by simp [results,Tryz.results18,go_sem,z0,z1,z2]) rfl ?_
 have hlt2:w.heap.size+1+1 < w.heap.size+1+1+1:=Nat.lt_succ_self _
 exact⟨_,rfl,CT.mono (((U.out.set hlt2 _).set hlt2 _).set hlt2 _) (by omega),((HB.out.setCell hle _).setCell hle _).setCell hle _⟩

theorem clfeed_do2 {w:World} {v vt:Value} {t:List Row} {k s sh pr si:Int} {on:Bool} {c st:List UInt8} {sum:Nat} {tt:List Row} (hv:Tab w v t) (hvt:Tab w vt tt) (n:Int) {F:Nat} (HF:∀ (xs:Array Value) (X:World),(callFunc F xs).run Tryz.prog X=.ok (.enter F xs) X) (hsT:Hid (Short t)) (hsh:Hid (Short tt)) (hc:c.length≤4294967296) (hst:st.length≤4294967296) (_hk:(Lit.int .i64 k).wf=true) (HL:Hid (∀ {z:World} {B:Nat},FnMap z B kindFnsC→(Instr.lookup 97 (.map (some B)) (.int .i64 k) true).run Tryz.prog z=.ok (.tuple #[.func (.func F) #[] #[],.bool true]) z)) (HM:Hid (frMay ⟨k,s,on,c,⟨sh,pr,si,st⟩,sum,tt⟩=true)) (HC:Hid (clMay ⟨t,n,false⟩=true)) (hns:n≤s∧0≤s∧s≤1099511627776) {og:Bool} (hg:decide (n < s)=og) {t2:List Row} {n2:Int} {o2:Bool}
  (HD:Hid (∀ X,Below w.heap.size w X→Calls Tryz.prog F #[.agg #[v,.int .i64 (s+1),.bool og],.agg #[.int .i64 k,.int .i64 s,.bool on,.string ⟨c.toArray⟩,.int .i64 sh,.int .i64 pr,.int .i64 si,.string ⟨st.toArray⟩,.int .u64 sum,vt]] X fun e X' => ∃ u,e=.returned (.agg #[u,.int .i64 n2,.bool o2])∧CT X' X.heap.size u v vt t2 t tt∧Below X.heap.size X X')) :
  Calls Tryz.prog 18 #[.agg #[v,.int .i64 n,.bool false],.agg #[.int .i64 k,.int .i64 s,.bool on,.string ⟨c.toArray⟩,.int .i64 sh,.int .i64 pr,.int .i64 si,.string ⟨st.toArray⟩,.int .u64 sum,vt]] w fun e w' => ∃ u,e=.returned (.agg #[u,.int .i64 n2,.bool o2])∧CT w' w.heap.size u v vt t2 t tt∧Below w.heap.size w w':=by
 have g1:decide (s < n)=false:=by rw [decide_eq_false_iff_not]; omega
 have hw:IntKind.i64.wrap (s+1)=s+1:=IntWalk.i64_in _ (by omega)
 have g2:decide (n < s)=og:=hg
 clear hg
 clear hns
 obtain⟨ca,cc,rfl,-⟩:=hv.open'
 obtain⟨ta,tc,rfl,-⟩:=hvt.open'
 have VA:=hZq (fun X (hX:Below w.heap.size w X) => hv.later hX)
 have VT:=hZq (fun X (hX:Below w.heap.size w X) => hvt.later hX)
 have b0:=bl_newZ w (.cells #[.slice ca t.length cc,.int .i64 n,.bool false] 24)
 have b1:=bl_newZ (w.alloc (.cells #[.slice ca t.length cc,.int .i64 n,.bool false] 24)) (.cells #[.int .i64 k,.int .i64 s,.bool on,.string ⟨c.toArray⟩,.int .i64 sh,.int .i64 pr,.int .i64 si,.string ⟨st.toArray⟩,.int .u64 sum,.slice ta tt.length tc] 29)
 have b2:=bl_newZ ((w.alloc (.cells #[.slice ca t.length cc,.int .i64 n,.bool false] 24)).alloc (.cells #[.int .i64 k,.int .i64 s,.bool on,.string ⟨c.toArray⟩,.int .i64 sh,.int .i64 pr,.int .i64 si,.string ⟨st.toArray⟩,.int .u64 sum,.slice ta tt.length tc] 29)) (.cells #[.slice none 0 0,.int .i64 0,.bool false] 24)
 have HB:=hZq (below2Z (below2Z b0 b1) b2)
 have CB:=newQ w (.cells #[.slice ca t.length cc,.int .i64 n,.bool false] 24)
 replace CB:=upQ CB b1
 replace CB:=upQ CB b2
 replace CB:=hZq CB
 have FB:=newQ (w.alloc (.cells #[.slice ca t.length cc,.int .i64 n,.bool false] 24)) (.cells #[.int .i64 k,.int .i64 s,.bool on,.string ⟨c.toArray⟩,.int .i64 sh,.int .i64 pr,.int .i64 si,.string ⟨st.toArray⟩,.int .u64 sum,.slice ta tt.length tc] 29)
 rw [World.size_alloc] at FB
 replace FB:=upQ FB b2
 replace FB:=hZq FB
 have RB:=newQ ((w.alloc (.cells #[.slice ca t.length cc,.int .i64 n,.bool false] 24)).alloc (.cells #[.int .i64 k,.int .i64 s,.bool on,.string ⟨c.toArray⟩,.int .i64 sh,.int .i64 pr,.int .i64 si,.string ⟨st.toArray⟩,.int .u64 sum,.slice ta tt.length tc] 29)) (.cells #[.slice none 0 0,.int .i64 0,.bool false] 24)
 rw [World.size_alloc,World.size_alloc] at RB
 replace RB:=hZq RB
 clear b0 b1 b2
 clear hv hvt
 go_enter Tryz.func18,Tryz.ntmps18
 go_upto_region 1 with fail
 generalize ((w.alloc (.cells #[.slice ca t.length cc,.int .i64 n,.bool false] 24)).alloc (.cells #[.int .i64 k,.int .i64 s,.bool on,.string ⟨c.toArray⟩,.int .i64 sh,.int .i64 pr,.int .i64 si,.string ⟨st.toArray⟩,.int .u64 sum,.slice ta tt.length tc] 29)).alloc (.cells #[.slice none 0 0,.int .i64 0,.bool false] 24)=w4 at CB FB RB HB ⊢
 obtain⟨BS,hBS⟩ : ∃ BS:List (Nat × List Value),BS=[(w.heap.size,[.slice ca t.length cc,.int .i64 n,.bool false]),(w.heap.size+1,[.int .i64 k,.int .i64 s,.bool on,.string ⟨c.toArray⟩,.int .i64 sh,.int .i64 pr,.int .i64 si,.string ⟨st.toArray⟩,.int .u64 sum,.slice ta tt.length tc]),(w.heap.size+1+1,[.slice none 0 0,.int .i64 0,.bool false])]:=⟨_,rfl⟩
 have D0:=hZq (show heldB w4 BS from by rw [hBS]; exact heldB_cons (cellsAt_block CB.out) (heldB_cons (cellsAt_block FB.out) (heldB_cons (cellsAt_block RB.out) (heldB_nil _))))
 have hq0:∀ X,heldB X BS→X.cell? ⟨w.heap.size,0,none⟩=some (.slice ca t.length cc):=fun X hx => heldB_get (vs:=[.slice ca t.length cc,.int .i64 n,.bool false]) hx (by rw [hBS]; simp) rfl
 have hq1:∀ X,heldB X BS→X.cell? ⟨w.heap.size,1,none⟩=some (.int .i64 n):=fun X hx => heldB_get (vs:=[.slice ca t.length cc,.int .i64 n,.bool false]) hx (by rw [hBS]; simp) rfl
 have hq2:∀ X,heldB X BS→X.cell? ⟨w.heap.size,2,none⟩=some (.bool false):=fun X hx => heldB_get (vs:=[.slice ca t.length cc,.int .i64 n,.bool false]) hx (by rw [hBS]; simp) rfl
 have hq3:∀ X,heldB X BS→X.cell? ⟨w.heap.size+1,0,none⟩=some (.int .i64 k):=fun X hx => heldB_get (vs:=[.int .i64 k,.int .i64 s,.bool on,.string ⟨c.toArray⟩,.int .i64 sh,.int .i64 pr,.int .i64 si,.string ⟨st.toArray⟩,.int .u64 sum,.slice ta tt.length tc]) hx (by rw [hBS]; simp) rfl
 have hq4:∀ X,heldB X BS→X.cell? ⟨w.heap.size+1,1,none⟩=some (.int .i64 s):=fun X hx => heldB_get (vs:=[.int .i64 k,.int .i64 s,.bool on,.string ⟨c.toArray⟩,.int .i64 sh,.int .i64 pr,.int .i64 si,.string ⟨st.toArray⟩,.int .u64 sum,.slice ta tt.length tc]) hx (by rw [hBS]; simp) rfl
 have hq5:∀ X,heldB X BS→X.cell? ⟨w.heap.size+1,2,none⟩=some (.bool on):=fun X hx => heldB_get (vs:=[.int .i64 k,.int .i64 s,.bool on,.string ⟨c.toArray⟩,.int .i64 sh,.int .i64 pr,.int .i64 si,.string ⟨st.toArray⟩,.int .u64 sum,.slice ta tt.length tc]) hx (by rw [hBS]; simp) rfl
 have hq6:∀ X,heldB X BS→X.cell? ⟨w.heap.size+1,3,none⟩=some (.string ⟨c.toArray⟩):=fun X hx => heldB_get (vs:=[.int .i64 k,.int .i64 s,.bool on,.string ⟨c.toArray⟩,.int .i64 sh,.int .i64 pr,.int .i64 si,.string ⟨st.toArray⟩,.int .u64 sum,.slice ta tt.length tc]) hx (by rw [hBS]; simp) rfl
 have hq7:∀ X,heldB X BS→X.cell? ⟨w.heap.size+1,4,none⟩=some (.int .i64 sh):=fun X hx => heldB_get (vs:=[.int .i64 k,.int .i64 s,.bool on,.string ⟨c.toArray⟩,.int .i64 sh,.int .i64 pr,.int .i64 si,.string ⟨st.toArray⟩,.int .u64 sum,.slice ta tt.length tc]) hx (by rw [hBS]; simp) rfl
 have hq8:∀ X,heldB X BS→X.cell? ⟨w.heap.size+1,5,none⟩=some (.int .i64 pr):=fun X hx => heldB_get (vs:=[.int .i64 k,.int .i64 s,.bool on,.string ⟨c.toArray⟩,.int .i64 sh,.int .i64 pr,.int .i64 si,.string ⟨st.toArray⟩,.int .u64 sum,.slice ta tt.length tc]) hx (by rw [hBS]; simp) rfl
 have hq9:∀ X,heldB X BS→X.cell? ⟨w.heap.size+1,6,none⟩=some (.int .i64 si):=fun X hx => heldB_get (vs:=[.int .i64 k,.int .i64 s,.bool on,.string ⟨c.toArray⟩,.int .i64 sh,.int .i64 pr,.int .i64 si,.string ⟨st.toArray⟩,.int .u64 sum,.slice ta tt.length tc]) hx (by rw [hBS]; simp) rfl
 have hq10:∀ X,heldB X BS→X.cell? ⟨w.heap.size+1,7,none⟩=some (.string ⟨st.toArray⟩):=fun X hx => heldB_get (vs:=[.int .i64 k,.int .i64 s,.bool on,.string ⟨c.toArray⟩,.int .i64 sh,.int .i64 pr,.int .i64 si,.string ⟨st.toArray⟩,.int .u64 sum,.slice ta tt.length tc]) hx (by rw [hBS]; simp) rfl
 have hq11:∀ X,heldB X BS→X.cell? ⟨w.heap.size+1,8,none⟩=some (.int .u64 sum):=fun X hx => heldB_get (vs:=[.int .i64 k,.int .i64 s,.bool on,.string ⟨c.toArray⟩,.int .i64 sh,.int .i64 pr,.int .i64 si,.string ⟨st.toArray⟩,.int .u64 sum,.slice ta tt.length tc]) hx (by rw [hBS]; simp) rfl
 have hq12:∀ X,heldB X BS→X.cell? ⟨w.heap.size+1,9,none⟩=some (.slice ta tt.length tc):=fun X hx => heldB_get (vs:=[.int .i64 k,.int .i64 s,.bool on,.string ⟨c.toArray⟩,.int .i64 sh,.int .i64 pr,.int .i64 si,.string ⟨st.toArray⟩,.int .u64 sum,.slice ta tt.length tc]) hx (by rw [hBS]; simp) rfl
 have hq13:∀ X,heldB X BS→X.cell? ⟨w.heap.size+1+1,0,none⟩=some (.slice none 0 0):=fun X hx => heldB_get (vs:=[.slice none 0 0,.int .i64 0,.bool false]) hx (by rw [hBS]; simp) rfl
 have hq14:∀ X,heldB X BS→X.cell? ⟨w.heap.size+1+1,1,none⟩=some (.int .i64 0):=fun X hx => heldB_get (vs:=[.slice none 0 0,.int .i64 0,.bool false]) hx (by rw [hBS]; simp) rfl
 have hq15:∀ X,heldB X BS→X.cell? ⟨w.heap.size+1+1,2,none⟩=some (.bool false):=fun X hx => heldB_get (vs:=[.slice none 0 0,.int .i64 0,.bool false]) hx (by rw [hBS]; simp) rfl
 clear hBS
 have K0:Hid (Below w4.heap.size w4 w4.drew):=hZq (Below.refl _ _).drew
 refine wp_region_held_drew (S:=(fun X => heldB X BS)) (by kernel_rfl) ?_ (fun hHeld => ?_)
 ·exact heldB_up K0.out D0.out
 generalize w4.drew=z0 at K0 hHeld ⊢
 refine wpAnyH_take (i:=1) (oi:=⟨some 9,.fieldAddr 29 (.tmp 3) 0,0,"client.go:36",#[],none⟩) (v:=?_) rfl (by as_aux_lemma => kernel_rfl) (by as_aux_lemma => kernel_rfl) (by as_aux_lemma => kernel_rfl) (fun _ _ _ h => h) (Or.inl ⟨by rfl,?_⟩) (by assumption) ?_
 rotate_left
 ·intro w' hSw
  try dsimp only at hSw
  go_simp
  try with_reducible rfl
 try simp only [Act.put,List.setIfInBounds_toArray,List.set_cons_zero,List.set_cons_succ]
 refine wpAnyH_take (i:=2) (oi:=⟨some 10,.load 3 (.tmp 9),3,"client.go:36",#[⟨1,.data⟩],none⟩) (v:=?_) rfl (by as_aux_lemma => kernel_rfl) (by as_aux_lemma => kernel_rfl) (by as_aux_lemma => kernel_rfl) (fun _ _ _ h => h) (Or.inl ⟨by rfl,?_⟩) (by assumption) ?_
 rotate_left
 ·intro w' hSw
  try dsimp only at hSw
  go_simp
  try with_reducible rfl
 try simp only [Act.put,List.setIfInBounds_toArray,List.set_cons_zero,List.set_cons_succ]
 refine wpAnyH_ready (rs:=[0]) (by as_aux_lemma => kernel_rfl) (by simp) ?_
 refine AllReadyH.cons (o:=⟨some 8,.call { callee:=.value (.func 59),args:=#[],argTypes:=#[] },97,"client.go:36",#[],none⟩) rfl (fun Kx hK => ?_) AllReadyH.nil
 go_simp
 refine (kindsC_any _).mono ?_
 rintro e z1001 ⟨rfl,hfn,bz1001⟩
 have K1001:=hZq (below2Z K0.out bz1001)
 have D1001:=hZq (heldB_up K1001.out D0.out)
 have HFN:=hZq hfn
 clear hfn
 clear bz1001
 go_wp2_with fail
 refine hK.out _ _ ?_ (fun hHeld2 => ?_)
 ·exact D1001.out
 clear hK Kx hHeld
 have hHeld:=hHeld2
 clear hHeld2
 try simp only [Act.put,List.setIfInBounds_toArray,List.set_cons_zero,List.set_cons_succ]
 have hlk:=HL.out HFN.out
 refine wpAnyH_ready (rs:=[3]) (by as_aux_lemma => kernel_rfl) (by simp) ?_
 refine AllReadyH.cons (o:=⟨some 11,.lookup 97 (.tmp 8) (.tmp 10) true,96,"client.go:36",#[⟨0,.data⟩,⟨2,.data⟩],none⟩) rfl (fun Kx hK => ?_) AllReadyH.nil
 go_simp
 refine hK.out _ _ ?_ (fun hHeld2 => ?_)
 ·exact heldB_up (K1001.out) D0.out
 clear hK Kx hHeld hlk
 have hHeld:=hHeld2
 clear hHeld2
 try simp only [Act.put,List.setIfInBounds_toArray,List.set_cons_zero,List.set_cons_succ]
 refine wpAnyH_take (i:=4) (oi:=⟨some 7,.move (.tmp 11),96,"client.go:36",#[⟨3,.data⟩],none⟩) (v:=?_) rfl (by as_aux_lemma => kernel_rfl) (by as_aux_lemma => kernel_rfl) (by as_aux_lemma => kernel_rfl) (fun _ _ _ h => h) (Or.inl ⟨by rfl,?_⟩) (by assumption) ?_
 rotate_left
 ·intro w' hSw
  try dsimp only at hSw
  go_simp
  try with_reducible rfl
 try simp only [Act.put,List.setIfInBounds_toArray,List.set_cons_zero,List.set_cons_succ]
 refine wpAnyH_take (i:=5) (oi:=⟨some 12,.extract (.tmp 7) 0,36,"client.go:36",#[⟨4,.data⟩],none⟩) (v:=?_) rfl (by as_aux_lemma => kernel_rfl) (by as_aux_lemma => kernel_rfl) (by as_aux_lemma => kernel_rfl) (fun _ _ _ h => h) (Or.inl ⟨by rfl,?_⟩) (by assumption) ?_
 rotate_left
 ·intro w' hSw
  try dsimp only at hSw
  go_simp
  try with_reducible rfl
 try simp only [Act.put,List.setIfInBounds_toArray,List.set_cons_zero,List.set_cons_succ]
 refine wpAnyH_take (i:=6) (oi:=⟨some 13,.extract (.tmp 7) 1,4,"client.go:36",#[⟨4,.data⟩,⟨7,.gcOnly .lateStores⟩],none⟩) (v:=?_) rfl (by as_aux_lemma => kernel_rfl) (by as_aux_lemma => kernel_rfl) (by as_aux_lemma => kernel_rfl) (fun _ _ _ h => h) (Or.inl ⟨by rfl,?_⟩) (by assumption) ?_
 rotate_left
 ·intro w' hSw
  try dsimp only at hSw
  go_simp
  try with_reducible rfl
 try simp only [Act.put,List.setIfInBounds_toArray,List.set_cons_zero,List.set_cons_succ]
 refine wpAnyH_take (i:=7) (oi:=⟨some 5,.assign (.tmp 12),36,"client.go:36",#[⟨5,.data⟩,⟨0,.chain⟩,⟨0,.phase⟩,⟨1,.phase⟩,⟨2,.phase⟩,⟨3,.phase⟩,⟨4,.phase⟩,⟨5,.phase⟩,⟨6,.textOnly .lateStores⟩],none⟩) (v:=?_) rfl (by as_aux_lemma => kernel_rfl) (by as_aux_lemma => kernel_rfl) (by as_aux_lemma => kernel_rfl) (fun _ _ _ h => h) (Or.inl ⟨by rfl,?_⟩) (by assumption) ?_
 rotate_left
 ·intro w' hSw
  try dsimp only at hSw
  go_simp
  try with_reducible rfl
 try simp only [Act.put,List.setIfInBounds_toArray,List.set_cons_zero,List.set_cons_succ]
 refine wpAnyH_take (i:=8) (oi:=⟨some 6,.assign (.tmp 13),4,"client.go:36",#[⟨6,.data⟩,⟨7,.chain⟩,⟨0,.phase⟩,⟨1,.phase⟩,⟨2,.phase⟩,⟨3,.phase⟩,⟨4,.phase⟩,⟨5,.phase⟩,⟨6,.phase⟩,⟨7,.phase⟩],none⟩) (v:=?_) rfl (by as_aux_lemma => kernel_rfl) (by as_aux_lemma => kernel_rfl) (by as_aux_lemma => kernel_rfl) (fun _ _ _ h => h) (Or.inl ⟨by rfl,?_⟩) (by assumption) ?_
 rotate_left
 ·intro w' hSw
  try dsimp only at hSw
  go_simp
  try with_reducible rfl
 try simp only [Act.put,List.setIfInBounds_toArray,List.set_cons_zero,List.set_cons_succ]
 refine wpAnyH_done (by kernel_rfl) ?_ _
 replace CB:=hZq (upQ CB.out K1001.out)
 replace FB:=hZq (upQ FB.out K1001.out)
 replace RB:=hZq (upQ RB.out K1001.out)
 replace HB:=hZq (below2Z HB.out K1001.out)
 try clear hHeld
 try clear D0
 try clear K0
 clear HFN
 obtain⟨⟨FBc0,FBc1,FBc2,FBc3,FBc4,FBc5,FBc6,FBc7,FBc8,FBc9⟩,⟨FBf0,FBf1,FBf2,FBf3,FBf4,FBf5,FBf6,FBf7,FBf8,FBf9⟩⟩:=blk10 FB.out
 go_wp2_with fail
 clear FBc0 FBc1 FBc2 FBc3 FBc4 FBc5 FBc6 FBc7 FBc8 FBc9 FBf0 FBf1 FBf2 FBf3 FBf4 FBf5 FBf6 FBf7 FBf8 FBf9
 refine (frmay_eqF (VT.out _ HB.out) hsh.out hc hst HM).mono ?_
 rintro e w5 ⟨rfl,b5⟩
 replace CB:=hZq (upQ CB.out b5)
 replace FB:=hZq (upQ FB.out b5)
 replace RB:=hZq (upQ RB.out b5)
 replace HB:=hZq (below2Z HB.out b5)
 clear b5
 obtain⟨⟨CBc0,CBc1,CBc2⟩,⟨CBf0,CBf1,CBf2⟩⟩:=blk3 CB.out
 go_wp2_with fail
 clear CBc0 CBc1 CBc2 CBf0 CBf1 CBf2
 refine (clmay_eq (VA.out _ HB.out) hsT.out n false HC).mono ?_
 rintro e w6 ⟨rfl,b6⟩
 replace CB:=hZq (upQ CB.out b6)
 replace FB:=hZq (upQ FB.out b6)
 replace RB:=hZq (upQ RB.out b6)
 replace HB:=hZq (below2Z HB.out b6)
 clear b6
 obtain⟨⟨CBc0,CBc1,CBc2⟩,⟨CBf0,CBf1,CBf2⟩⟩:=blk3 CB.out
 obtain⟨⟨FBc0,FBc1,FBc2,FBc3,FBc4,FBc5,FBc6,FBc7,FBc8,FBc9⟩,⟨FBf0,FBf1,FBf2,FBf3,FBf4,FBf5,FBf6,FBf7,FBf8,FBf9⟩⟩:=blk10 FB.out
 go_upto_region 5 with fail
 clear CBc0 CBc1 CBc2 CBf0 CBf1 CBf2 FBc0 FBc1 FBc2 FBc3 FBc4 FBc5 FBc6 FBc7 FBc8 FBc9 FBf0 FBf1 FBf2 FBf3 FBf4 FBf5 FBf6 FBf7 FBf8 FBf9
 have CBz:Hid ((w6.setCell ⟨w.heap.size,2,none⟩ (.bool og)).heap[w.heap.size]?=some (.cells #[.slice ca t.length cc,.int .i64 n,.bool og] 24 (0,0))):=hZq (heap_setCell_same w6 w.heap.size 2 _ _ (.bool og) CB.out)
 have FBz:Hid ((w6.setCell ⟨w.heap.size,2,none⟩ (.bool og)).heap[w.heap.size+1]?=some (.cells #[.int .i64 k,.int .i64 s,.bool on,.string ⟨c.toArray⟩,.int .i64 sh,.int .i64 pr,.int .i64 si,.string ⟨st.toArray⟩,.int .u64 sum,.slice ta tt.length tc] 29 (0,0))):=hZq ((Below.heap_setCell _ _ _ (w.heap.size+1) (show ¬ w.heap.size+1=w.heap.size by omega)).trans FB.out)
 have RBz:Hid ((w6.setCell ⟨w.heap.size,2,none⟩ (.bool og)).heap[w.heap.size+1+1]?=some (.cells #[.slice none 0 0,.int .i64 0,.bool false] 24 (0,0))):=hZq ((Below.heap_setCell _ _ _ (w.heap.size+1+1) (show ¬ w.heap.size+1+1=w.heap.size by omega)).trans RB.out)
 have HBz:Hid (Below w.heap.size w (w6.setCell ⟨w.heap.size,2,none⟩ (.bool og))):=hZq (HB.out.setCell (show w.heap.size≤w.heap.size by omega) _)
 clear HB CB FB RB
 generalize w6.setCell ⟨w.heap.size,2,none⟩ (.bool og)=w7 at CBz FBz RBz HBz ⊢
 have CB:=CBz
 clear CBz
 have FB:=FBz
 clear FBz
 have RB:=RBz
 clear RBz
 have HB:=HBz
 clear HBz
 obtain⟨⟨CBc0,CBc1,CBc2⟩,⟨CBf0,CBf1,CBf2⟩⟩:=blk3 CB.out
 obtain⟨⟨FBc0,FBc1,FBc2,FBc3,FBc4,FBc5,FBc6,FBc7,FBc8,FBc9⟩,⟨FBf0,FBf1,FBf2,FBf3,FBf4,FBf5,FBf6,FBf7,FBf8,FBf9⟩⟩:=blk10 FB.out
 go_upto_region 6 with fail
 clear CBc0 CBc1 CBc2 CBf0 CBf1 CBf2 FBc0 FBc1 FBc2 FBc3 FBc4 FBc5 FBc6 FBc7 FBc8 FBc9 FBf0 FBf1 FBf2 FBf3 FBf4 FBf5 FBf6 FBf7 FBf8 FBf9
 have CBz:Hid ((w7.setCell ⟨w.heap.size,1,none⟩ (.int .i64 (s+1))).heap[w.heap.size]?=some (.cells #[.slice ca t.length cc,.int .i64 (s+1),.bool og] 24 (0,0))):=hZq (heap_setCell_same w7 w.heap.size 1 _ _ (.int .i64 (s+1)) CB.out)
 have FBz:Hid ((w7.setCell ⟨w.heap.size,1,none⟩ (.int .i64 (s+1))).heap[w.heap.size+1]?=some (.cells #[.int .i64 k,.int .i64 s,.bool on,.string ⟨c.toArray⟩,.int .i64 sh,.int .i64 pr,.int .i64 si,.string ⟨st.toArray⟩,.int .u64 sum,.slice ta tt.length tc] 29 (0,0))):=hZq ((Below.heap_setCell _ _ _ (w.heap.size+1) (show ¬ w.heap.size+1=w.heap.size by omega)).trans FB.out)
 have RBz:Hid ((w7.setCell ⟨w.heap.size,1,none⟩ (.int .i64 (s+1))).heap[w.heap.size+1+1]?=some (.cells #[.slice none 0 0,.int .i64 0,.bool false] 24 (0,0))):=hZq ((Below.heap_setCell _ _ _ (w.heap.size+1+1) (show ¬ w.heap.size+1+1=w.heap.size by omega)).trans RB.out)
 have HBz:Hid (Below w.heap.size w (w7.setCell ⟨w.heap.size,1,none⟩ (.int .i64 (s+1)))):=hZq (HB.out.setCell (show w.heap.size≤w.heap.size by omega) _)
 clear HB CB FB RB
 generalize w7.setCell ⟨w.heap.size,1,none⟩ (.int .i64 (s+1))=w8 at CBz FBz RBz HBz ⊢
 have CB:=CBz
 clear CBz
 have FB:=FBz
 clear FBz
 have RB:=RBz
 clear RBz
 have HB:=HBz
 clear HBz
 obtain⟨⟨CBc0,CBc1,CBc2⟩,⟨CBf0,CBf1,CBf2⟩⟩:=blk3 CB.out
 obtain⟨⟨FBc0,FBc1,FBc2,FBc3,FBc4,FBc5,FBc6,FBc7,FBc8,FBc9⟩,⟨FBf0,FBf1,FBf2,FBf3,FBf4,FBf5,FBf6,FBf7,FBf8,FBf9⟩⟩:=blk10 FB.out
 go_wp2_with fail
 clear CBc0 CBc1 CBc2 CBf0 CBf1 CBf2 FBc0 FBc1 FBc2 FBc3 FBc4 FBc5 FBc6 FBc7 FBc8 FBc9 FBf0 FBf1 FBf2 FBf3 FBf4 FBf5 FBf6 FBf7 FBf8 FBf9
 have hRB:=(Array.getElem?_eq_some_iff.1 RB.out).1
 refine (HD.out _ HB.out).mono ?_
 rintro e w9 ⟨u9,rfl,hu9,b9⟩
 replace CB:=hZq (upQ CB.out b9)
 replace FB:=hZq (upQ FB.out b9)
 replace RB:=hZq (upQ RB.out b9)
 replace HB:=hZq (below2Z HB.out b9)
 obtain⟨ua,un,uc,rfl⟩:=hu9.shape
 have U:=hZq (CT.mono hu9 (show w.heap.size+1+1+1≤_ from hRB))
 clear hu9 hRB
 clear b9
 obtain⟨⟨RBc0,RBc1,RBc2⟩,⟨RBf0,RBf1,RBf2⟩⟩:=blk3 RB.out
 go_wp2_with fail
 clear RBc0 RBc1 RBc2 RBf0 RBf1 RBf2
 have hz:=stN3_heap RB.out (.slice ua un uc) (.int .i64 n2) (.bool o2)
 have hle:w.heap.size≤w.heap.size+1+1:=by omega
 obtain⟨⟨z0,z1,z2⟩,-⟩:=blk3 hz
 unfold stN3 at z0 z1 z2
 refine bodyPost_ret (v:=.agg #[.slice ua un uc,.int .i64 n2,.bool o2]) (by simp [results,Tryz.results18,go_sem,z0,z1,z2]) rfl ?_
 have hlt2:w.heap.size+1+1 < w.heap.size+1+1+1:=Nat.lt_succ_self _
 exact⟨_,rfl,CT.mono (((U.out.set hlt2 _).set hlt2 _).set hlt2 _) (by omega),((HB.out.setCell hle _).setCell hle _).setCell hle _⟩

theorem clfeed_k {w:World} {v vt:Value} {t:List Row} {k s sh pr si:Int} {on:Bool} {c st:List UInt8} {sum:Nat} {tt:List Row} (hv:Tab w v t) (hvt:Tab w vt tt) (n:Int) (o:Bool) {F:Nat} (HF:∀ (xs:Array Value) (X:World),(callFunc F xs).run Tryz.prog X=.ok (.enter F xs) X) (hsT:Short t) (hsh:Short tt) (hc:c.length≤4294967296) (hst:st.length≤4294967296) (hk:(Lit.int .i64 k).wf=true) (HL:Hid (∀ {z:World} {B:Nat},FnMap z B kindFnsC→(Instr.lookup 97 (.map (some B)) (.int .i64 k) true).run Tryz.prog z=.ok (.tuple #[.func (.func F) #[] #[],.bool true]) z)) (hk4:¬ k=4) {t2:List Row} {n2:Int} {o2:Bool} (h:clFeed ⟨t,n,o⟩ ⟨k,s,on,c,⟨sh,pr,si,st⟩,sum,tt⟩=⟨t2,n2,o2⟩)
  (HD:clDo ⟨t,n,o⟩ ⟨k,s,on,c,⟨sh,pr,si,st⟩,sum,tt⟩=⟨t2,n2,o2⟩→∀ X,Below w.heap.size w X→Calls Tryz.prog F #[.agg #[v,.int .i64 (s+1),.bool (o || decide (n < s))],.agg #[.int .i64 k,.int .i64 s,.bool on,.string ⟨c.toArray⟩,.int .i64 sh,.int .i64 pr,.int .i64 si,.string ⟨st.toArray⟩,.int .u64 sum,vt]] X fun e X' => ∃ u,e=.returned (.agg #[u,.int .i64 n2,.bool o2])∧CT X' X.heap.size u v vt t2 t tt∧Below X.heap.size X X') :
  Calls Tryz.prog 18 #[.agg #[v,.int .i64 n,.bool o],.agg #[.int .i64 k,.int .i64 s,.bool on,.string ⟨c.toArray⟩,.int .i64 sh,.int .i64 pr,.int .i64 si,.string ⟨st.toArray⟩,.int .u64 sum,vt]] w fun e w' => ∃ u,e=.returned (.agg #[u,.int .i64 n2,.bool o2])∧CT w' w.heap.size u v vt t2 t tt∧Below w.heap.size w w':=by
 have keep:clTakes ⟨t,n,o⟩ ⟨k,s,on,c,⟨sh,pr,si,st⟩,sum,tt⟩=false→t2=t∧n2=n∧o2=o:=fun ht => by
  unfold clFeed at h
  rw [if_neg (by rw [ht]; decide)] at h
  simp only [Cli.mk.injEq] at h
  exact⟨h.1.symm,h.2.1.symm,h.2.2.symm⟩
 cases ht:clTakes ⟨t,n,o⟩ ⟨k,s,on,c,⟨sh,pr,si,st⟩,sum,tt⟩ with
 | false =>
  obtain⟨rfl,rfl,rfl⟩:=keep ht
  exact clfeed_u hv hvt n2 o2 (hZq hsT) (hZq hsh) hc hst hk HL hk4 ht
 | true =>
  obtain⟨hm,_,hcm,hns⟩:=clTakes_parts ht
  have hd:clDo ⟨t,n,o⟩ ⟨k,s,on,c,⟨sh,pr,si,st⟩,sum,tt⟩=⟨t2,n2,o2⟩:=by
   unfold clFeed at h
   rwa [if_pos ht] at h
  have ho:=frMay_iff.1 hm
  have hss:n≤s∧0≤s∧s≤1099511627776:=⟨hns,ho.s0,ho.s1⟩
  have HX:=HD hd
  cases o with
  | true => exact clfeed_do1 hv hvt n HF (hZq hsT) (hZq hsh) hc hst hk HL (hZq hm) (hZq hcm) hss (hZq HX)
  | false => exact clfeed_do2 hv hvt n HF (hZq hsT) (hZq hsh) hc hst hk HL (hZq hm) (hZq hcm) hss rfl (hZq HX)

theorem clfeed_any {w:World} {v vt:Value} {t:List Row} {k s sh pr si:Int} {on:Bool} {c st:List UInt8} {sum:Nat} {tt:List Row} (hv:Tab w v t) (hvt:Tab w vt tt) (n:Int) (o:Bool) (hsT:Short t) (hsh:Short tt) (hc:c.length≤4294967296) (hst:st.length≤4294967296) (hk:(Lit.int .i64 k).wf=true) (hl:t.length≤1000) (hl2:tt.length≤1000) {t2:List Row} {n2:Int} {o2:Bool} (h:Hid (clFeed ⟨t,n,o⟩ ⟨k,s,on,c,⟨sh,pr,si,st⟩,sum,tt⟩=⟨t2,n2,o2⟩)) :
  Calls Tryz.prog 18 #[.agg #[v,.int .i64 n,.bool o],.agg #[.int .i64 k,.int .i64 s,.bool on,.string ⟨c.toArray⟩,.int .i64 sh,.int .i64 pr,.int .i64 si,.string ⟨st.toArray⟩,.int .u64 sum,vt]] w fun e w' => ∃ u,e=.returned (.agg #[u,.int .i64 n2,.bool o2])∧CT w' w.heap.size u v vt t2 t tt∧Below w.heap.size w w':=by
 have h:=h.out
 by_cases h1:k=1
 ·subst h1
  refine clfeed_k hv hvt n o (F:=96) (fun _ _ => by kernel_rfl) hsT hsh hc hst hk (hZq fun h => h.lookC 1 (by decide)) (by decide) h (fun hd X hX => ?_)
  unfold clDo at hd
  rw [if_neg (by show ¬ (1:Int)=3; decide)] at hd
  cases ho:(o || decide (n < s)) with
  | true =>
   rw [if_pos ho] at hd
   simp only [Cli.mk.injEq] at hd
   obtain⟨rfl,rfl,rfl⟩:=hd
   exact clchg_a (hv.later hX) (hvt.later hX) (s+1)
  | false =>
   rw [if_neg (by show ¬ (o || decide (n < s))=true; rw [ho]; decide),if_neg (by show ¬ (1:Int)=2; decide)] at hd
   simp only at hd
   cases hm:diMay (diSet t ⟨c,on,⟨sh,pr,si,st⟩⟩) with
   | false =>
    rw [if_neg (by rw [hm]; decide)] at hd
    simp only [Cli.mk.injEq] at hd
    obtain⟨rfl,rfl,rfl⟩:=hd
    exact clchg_b (hv.later hX) (hvt.later hX) (s+1) hl (clset_short hsT hc hst) (hZq hm)
   | true =>
    rw [if_pos hm] at hd
    simp only [Cli.mk.injEq] at hd
    obtain⟨rfl,rfl,rfl⟩:=hd
    exact clchg_c (hv.later hX) (hvt.later hX) (s+1) hl (clset_short hsT hc hst) (hZq hm)
 ·by_cases h2:k=2
  ·subst h2
   refine clfeed_k hv hvt n o (F:=97) (fun _ _ => by kernel_rfl) hsT hsh hc hst hk (hZq fun h => h.lookC 2 (by decide)) (by decide) h (fun hd X hX => ?_)
   unfold clDo at hd
   rw [if_neg (by show ¬ (2:Int)=3; decide)] at hd
   cases ho:(o || decide (n < s)) with
   | true =>
    rw [if_pos ho] at hd
    simp only [Cli.mk.injEq] at hd
    obtain⟨rfl,rfl,rfl⟩:=hd
    exact clchk_a (hv.later hX) (hvt.later hX) (s+1)
   | false =>
    rw [if_neg (by show ¬ (o || decide (n < s))=true; rw [ho]; decide),if_pos rfl] at hd
    simp only [Cli.mk.injEq] at hd
    obtain⟨rfl,rfl,rfl⟩:=hd
    refine clchk_b (hv.later hX) (hvt.later hX) (s+1) hsT (z:=diSum t) (hZq rfl) ?_
    rw [Bool.eq_iff_iff]
    simp [Int.ofNat_inj]
  ·by_cases h3:k=3
   ·subst h3
    refine clfeed_k hv hvt n o (F:=98) (fun _ _ => by kernel_rfl) hsT hsh hc hst hk (hZq fun h => h.lookC 3 (by decide)) (by decide) h (fun hd X hX => ?_)
    unfold clDo at hd
    rw [if_pos rfl] at hd
    simp only [Cli.mk.injEq] at hd
    obtain⟨rfl,rfl,rfl⟩:=hd
    exact clrep_any (hv.later hX) (hvt.later hX) (s+1) _ hl2
   ·have hno:kindFnsC.any (fun x => x.1 == k)=false∧kindFnsC.find? (fun x => x.1 == k)=none:=by
     have g1:((1:Int) == k)=false:=by rw [beq_eq_false_iff_ne]; omega
     have g2:((2:Int) == k)=false:=by rw [beq_eq_false_iff_ne]; omega
     have g3:((3:Int) == k)=false:=by rw [beq_eq_false_iff_ne]; omega
     simp [kindFnsC,g1,g2,g3]
    have ht:clTakes ⟨t,n,o⟩ ⟨k,s,on,c,⟨sh,pr,si,st⟩,sum,tt⟩=false:=by
     cases hm:clTakes ⟨t,n,o⟩ ⟨k,s,on,c,⟨sh,pr,si,st⟩,sum,tt⟩ with
     | false => rfl
     | true =>
      obtain⟨m1,m2,_⟩:=clTakes_parts hm
      have:=(frMay_iff.1 m1).k1
      have:=(frMay_iff.1 m1).k4
      simp only at *
      omega
    unfold clFeed at h
    rw [if_neg (by rw [ht]; decide)] at h
    simp only [Cli.mk.injEq] at h
    obtain⟨rfl,rfl,rfl⟩:=h
    refine clfeed_no hv hvt n o hk (hZq fun h => ?_)
    have:=h.lookC k hk
    rw [hno.1,hno.2] at this
    exact this

theorem clnew_any (w:World):Calls Tryz.prog 20 #[] w fun e w' => e=.returned (.agg #[.slice none 0 0,.int .i64 0,.bool false])∧Below w.heap.size w w':=by
 have b0:=bl_newZ w (.cells #[.slice none 0 0,.int .i64 0,.bool false] 24)
 have HB:=hZq b0
 have RB:=newQ w (.cells #[.slice none 0 0,.int .i64 0,.bool false] 24)
 replace RB:=hZq RB
 clear b0
 obtain⟨⟨RBc0,RBc1,RBc2⟩,⟨RBf0,RBf1,RBf2⟩⟩:=blk3 RB.out
 go_enter Tryz.func20,Tryz.ntmps20
 go_wp2_with fail
 refine bodyPost_ret (v:=.agg #[.slice none 0 0,.int .i64 0,.bool false]) (by simp [results,Tryz.results20,go_sem]) rfl ⟨rfl,(Below.refl _ _).alloc (Nat.le_refl _) _⟩

theorem clask_a {w:World} {v:Value} {t:List Row} (hv:Tab w v t) (n:Int)  :
  Calls Tryz.prog 15 #[.agg #[v,.int .i64 n,.bool false]] w fun e w' => e=.returned (.tuple #[.string ⟨([]:List UInt8).toArray⟩,.bool false])∧Below w.heap.size w w':=by
 obtain⟨ca,cc,rfl,-⟩:=hv.open'
 have b0:=bl_newZ w (.cells #[.slice ca t.length cc,.int .i64 n,.bool false] 24)
 have HB:=hZq b0
 have VA:=hZq (hv.later b0)
 have CB:=newQ w (.cells #[.slice ca t.length cc,.int .i64 n,.bool false] 24)
 replace CB:=hZq CB
 clear b0
 clear hv
 go_enter Tryz.func15,Tryz.ntmps15
 obtain⟨⟨CBc0,CBc1,CBc2⟩,⟨CBf0,CBf1,CBf2⟩⟩:=blk3 CB.out
 go_wp2_with fail
 clear CBc0 CBc1 CBc2 CBf0 CBf1 CBf2
 go_wp2_with fail
 go_ret2
 exact⟨rfl,HB.out⟩

theorem clask_b {w:World} {v:Value} {t:List Row} (hv:Tab w v t) (n:Int) (hs:Short t) (HC:Hid (clMay ⟨t,n,true⟩=false)) :
  Calls Tryz.prog 15 #[.agg #[v,.int .i64 n,.bool true]] w fun e w' => e=.returned (.tuple #[.string ⟨([]:List UInt8).toArray⟩,.bool false])∧Below w.heap.size w w':=by
 obtain⟨ca,cc,rfl,-⟩:=hv.open'
 have b0:=bl_newZ w (.cells #[.slice ca t.length cc,.int .i64 n,.bool true] 24)
 have HB:=hZq b0
 have VA:=hZq (hv.later b0)
 have CB:=newQ w (.cells #[.slice ca t.length cc,.int .i64 n,.bool true] 24)
 replace CB:=hZq CB
 clear b0
 clear hv
 go_enter Tryz.func15,Tryz.ntmps15
 obtain⟨⟨CBc0,CBc1,CBc2⟩,⟨CBf0,CBf1,CBf2⟩⟩:=blk3 CB.out
 go_wp2_with fail
 clear CBc0 CBc1 CBc2 CBf0 CBf1 CBf2
 refine (clmay_eq VA.out hs _ true HC).mono ?_
 rintro e w2 ⟨rfl,b2⟩
 replace CB:=hZq (upQ CB.out b2)
 replace VA:=hZq (VA.out.later b2)
 replace HB:=hZq (below2Z HB.out b2)
 clear b2
 go_wp2_with fail
 go_ret2
 exact⟨rfl,HB.out⟩

theorem clask_c {w:World} {v:Value} {t:List Row} (hv:Tab w v t) (n:Int) (hs:Short t) (hn:n≤1099511627776) (HC:Hid (clMay ⟨t,n,true⟩=true)) {l:List UInt8} (HE:Hid (frEnc ⟨4,n,false,[],⟨0,0,0,[]⟩,0,[]⟩=(l,0))) :
  Calls Tryz.prog 15 #[.agg #[v,.int .i64 n,.bool true]] w fun e w' => e=.returned (.tuple #[.string ⟨l.toArray⟩,.bool true])∧Below w.heap.size w w':=by
 have hmin:min n 1099511627776=n:=by omega
 clear hn
 obtain⟨ca,cc,rfl,-⟩:=hv.open'
 have b0:=bl_newZ w (.cells #[.slice ca t.length cc,.int .i64 n,.bool true] 24)
 have HB:=hZq b0
 have VA:=hZq (hv.later b0)
 have CB:=newQ w (.cells #[.slice ca t.length cc,.int .i64 n,.bool true] 24)
 replace CB:=hZq CB
 clear b0
 clear hv
 go_enter Tryz.func15,Tryz.ntmps15
 obtain⟨⟨CBc0,CBc1,CBc2⟩,⟨CBf0,CBf1,CBf2⟩⟩:=blk3 CB.out
 go_wp2_with fail
 clear CBc0 CBc1 CBc2 CBf0 CBf1 CBf2
 refine (clmay_eq VA.out hs _ true HC).mono ?_
 rintro e w2 ⟨rfl,b2⟩
 replace CB:=hZq (upQ CB.out b2)
 replace VA:=hZq (VA.out.later b2)
 replace HB:=hZq (below2Z HB.out b2)
 clear b2
 obtain⟨⟨CBc0,CBc1,CBc2⟩,⟨CBf0,CBf1,CBf2⟩⟩:=blk3 CB.out
 go_wp2_with fail
 clear CBc0 CBc1 CBc2 CBf0 CBf1 CBf2
 refine (frenc_any (OwnR.tab (ownR_nil _ 0)) (fun r hr => by simp at hr) 4 n false [] 0 0 0 [] 0 (by decide) (by decide) (by decide) HE).mono ?_
 rintro e w3 ⟨rfl,b3⟩
 replace CB:=hZq (upQ CB.out b3)
 replace VA:=hZq (VA.out.later b3)
 replace HB:=hZq (below2Z HB.out b3)
 clear b3
 go_wp2_with fail
 go_ret2
 exact⟨rfl,HB.out⟩

theorem clask_d {w:World} {v:Value} {t:List Row} (hv:Tab w v t) (hs:Short t) (HC:Hid (clMay ⟨t,1099511627777,true⟩=true)) {l:List UInt8} (HE:Hid (frEnc ⟨4,1099511627776,false,[],⟨0,0,0,[]⟩,0,[]⟩=(l,0))) :
  Calls Tryz.prog 15 #[.agg #[v,.int .i64 1099511627777,.bool true]] w fun e w' => e=.returned (.tuple #[.string ⟨l.toArray⟩,.bool true])∧Below w.heap.size w w':=by
 obtain⟨ca,cc,rfl,-⟩:=hv.open'
 have b0:=bl_newZ w (.cells #[.slice ca t.length cc,.int .i64 1099511627777,.bool true] 24)
 have HB:=hZq b0
 have VA:=hZq (hv.later b0)
 have CB:=newQ w (.cells #[.slice ca t.length cc,.int .i64 1099511627777,.bool true] 24)
 replace CB:=hZq CB
 clear b0
 clear hv
 go_enter Tryz.func15,Tryz.ntmps15
 obtain⟨⟨CBc0,CBc1,CBc2⟩,⟨CBf0,CBf1,CBf2⟩⟩:=blk3 CB.out
 go_wp2_with fail
 clear CBc0 CBc1 CBc2 CBf0 CBf1 CBf2
 refine (clmay_eq VA.out hs _ true HC).mono ?_
 rintro e w2 ⟨rfl,b2⟩
 replace CB:=hZq (upQ CB.out b2)
 replace VA:=hZq (VA.out.later b2)
 replace HB:=hZq (below2Z HB.out b2)
 clear b2
 obtain⟨⟨CBc0,CBc1,CBc2⟩,⟨CBf0,CBf1,CBf2⟩⟩:=blk3 CB.out
 go_wp2_with fail
 clear CBc0 CBc1 CBc2 CBf0 CBf1 CBf2
 refine (frenc_any (OwnR.tab (ownR_nil _ 0)) (fun r hr => by simp at hr) 4 1099511627776 false [] 0 0 0 [] 0 (by decide) (by decide) (by decide) HE).mono ?_
 rintro e w3 ⟨rfl,b3⟩
 replace CB:=hZq (upQ CB.out b3)
 replace VA:=hZq (VA.out.later b3)
 replace HB:=hZq (below2Z HB.out b3)
 clear b3
 go_wp2_with fail
 go_ret2
 exact⟨rfl,HB.out⟩

theorem clask_any {w:World} {v:Value} {t:List Row} (hv:Tab w v t) (n:Int) (o:Bool) (hs:Short t) {l:List UInt8} {r:Bool} (h:Hid (clAsk ⟨t,n,o⟩=(l,r))) :
  Calls Tryz.prog 15 #[.agg #[v,.int .i64 n,.bool o]] w fun e w' => e=.returned (.tuple #[.string ⟨l.toArray⟩,.bool r])∧Below w.heap.size w w':=by
 have h:=h.out
 unfold clAsk at h
 cases o with
 | false =>
  rw [if_neg (by simp)] at h
  simp only [Prod.mk.injEq] at h
  obtain⟨rfl,rfl⟩:=h
  exact clask_a hv n
 | true =>
  cases hc:clMay ⟨t,n,true⟩ with
  | false =>
   rw [if_neg (by simp [hc])] at h
   simp only [Prod.mk.injEq] at h
   obtain⟨rfl,rfl⟩:=h
   exact clask_b hv n hs (hZq hc)
  | true =>
   rw [if_pos (by simp [hc])] at h
   simp only [Prod.mk.injEq] at h
   obtain⟨rfl,rfl⟩:=h
   have he:=enc_mayP (clReq_may hc)
   by_cases hn:n≤1099511627776
   ·have e:clReq ⟨t,n,true⟩=⟨4,n,false,[],⟨0,0,0,[]⟩,0,[]⟩:=by unfold clReq; rw [if_pos hn]; rfl
    rw [e] at he ⊢
    exact clask_c hv n hs hn (hZq hc) (hZq he)
   ·have e:clReq ⟨t,n,true⟩=⟨4,1099511627776,false,[],⟨0,0,0,[]⟩,0,[]⟩:=by unfold clReq; rw [if_neg hn]; rfl
    rw [e] at he ⊢
    have h1:=(clMay_parts hc).2.1
    obtain rfl:n=1099511627777:=by simp only at h1; omega
    exact clask_d hv hs (hZq hc) (hZq he)

end Go.Proofs.YtekkofldhhdpgaaGreat

end

section

namespace Go.Proofs.YtekkofldhhdpgaaGreat

theorem frRead_of {l:List UInt8} (hne:l ≠ []) {n f er:Nat} (h:vget l 1=(n,f,er)):frRead l=if er ≠ 0∨1099511627776 < n then Frm.zero else frReadAt l (l.getD 0 0).toNat n f:=by
 cases l with
 | nil => exact absurd rfl hne
 | cons x r => unfold frRead; simp only [h]; rfl

theorem frReadAt_short (l:List UInt8) (hl:l.length≤4294967296) (k n a:Nat):FrShort (frReadAt l k n a):=by
 have hnil:Short []:=fun r hr => by simp at hr
 unfold frReadAt
 split
 ·split
  ·exact frShort_zero
  ·split
   ·exact frShort_zero
   ·have hi:(idTake l (a+1)).1.length≤l.length:=idTake_shortF rfl
    split
    ·split
     ·exact frShort_zero
     ·have hv:=vaTake_shortF (l:=l) (p:=(idTake l (a+1)).2.1) rfl
      exact⟨Nat.le_trans hi hl,Nat.le_trans hv hl,hnil,by simp⟩
    ·exact⟨Nat.le_trans hi hl,by simp [Val.zero],hnil,by simp⟩
 ·split
  ·exact⟨by simp,by simp [Val.zero],hnil,sum8_take _⟩
  ·split
   ·split
    ·exact frShort_zero
    ·exact⟨by simp,by simp [Val.zero],diTake_shortF l a,by simp⟩
   ·exact⟨by simp,by simp [Val.zero],hnil,by simp⟩

theorem frRead_short (l:List UInt8) (hl:l.length≤4294967296):FrShort (frRead l):=by
 by_cases hne:l=[]
 ·subst hne; exact frShort_zero
 ·obtain⟨n,f,er,hg⟩ : ∃ n f er,vget l 1=(n,f,er):=⟨_,_,_,rfl⟩
  rw [frRead_of hne hg]
  split
  ·exact frShort_zero
  ·exact frReadAt_short l hl _ _ _

end Go.Proofs.YtekkofldhhdpgaaGreat

end

section

namespace Go.Proofs.YtekkofldhhdpgaaGreat
open Go.RowKit

def RT (w:World) (base:Nat) (v vc:Value) (t tc:List Row):Prop:=(v=vc∧t=tc)∨OwnR w base v t

theorem RT.tab {w:World} {b:Nat} {v vc:Value} {t tc:List Row} (h:RT w b v vc t tc) (h1:Tab w vc tc):Tab w v t:=by
 rcases h with ⟨rfl,rfl⟩ | h
 ·exact h1
 ·exact OwnR.tab h

theorem dec_okC {s:List UInt8} {f:Frm} (h:frDec s=(f,0)) (hl:s.length≤4294967296):frMay f=true∧FrShort f∧f.t.length≤1000∧(Lit.int .i64 f.k).wf=true:=by
 rw [frDec_doc] at h
 unfold frDoc at h
 have hc:(copen s).1.length≤s.length:=copen_lenF (t:=(copen s).1) (er:=(copen s).2) rfl
 split at h
 ·rename_i hne; simp only [Prod.mk.injEq] at h; exact absurd h.2 hne
 ·split at h
  ·rename_i hm
   simp only [Prod.mk.injEq,and_true] at h
   have hs:=frRead_short (copen s).1 (by omega)
   rw [h] at hm hs
   refine ⟨hm.1,hs,?_,?_⟩
   ·by_cases hk:f.k=3
    ·have:=(diMay_iff.1 (frTable_may hm.1 hk)).1
     omega
    ·have hr:=(frMay_iff.1 hm.1).rest
     unfold frRest at hr
     by_cases h1:f.k=1
     ·rw [if_pos h1] at hr
      simp only [Bool.and_eq_true,decide_eq_true_eq] at hr
      omega
     ·rw [if_neg h1] at hr
      by_cases h2:f.k=2
      ·rw [if_pos h2] at hr
       simp only [Bool.and_eq_true,decide_eq_true_eq] at hr
       omega
      ·rw [if_neg h2,if_neg hk] at hr
       simp only [Bool.and_eq_true,decide_eq_true_eq] at hr
       omega
   ·have h1:=(frMay_iff.1 hm.1).k1
    have h4:=(frMay_iff.1 hm.1).k4
    simp [Lit.wf,IntKind.min,IntKind.max,IntKind.signed,IntKind.bits]
    omega
  ·simp only [Prod.mk.injEq] at h; omega

theorem dec_errC {s:List UInt8} {f:Frm} {e:Nat} (h:frDec s=(f,e)) (he:e ≠ 0):f=⟨0,0,false,[],⟨0,0,0,[]⟩,0,[]⟩:=by
 rw [frDec_doc] at h
 unfold frDoc at h
 split at h
 ·simp only [Prod.mk.injEq] at h; exact h.1.symm
 ·split at h
  ·simp only [Prod.mk.injEq] at h; exact absurd h.2.symm he
  ·simp only [Prod.mk.injEq] at h; exact h.1.symm

theorem clread_e {w:World} {v:Value} {t:List Row} (hv:Tab w v t) (n:Int) (o:Bool) (s0:List UInt8) (hl0:s0.length≤4294967296) {er:Nat} (HD:Hid (frDec s0=(⟨0,0,false,[],⟨0,0,0,[]⟩,0,[]⟩,er))) (her:er ≠ 0) :
  Calls Tryz.prog 24 #[.agg #[v,.int .i64 n,.bool o],.string ⟨s0.toArray⟩] w fun e w' => ∃ u,e=.returned (.tuple #[.agg #[u,.int .i64 n,.bool o],.int .i64 er])∧RT w' w.heap.size u v t t∧Below w.heap.size w w':=by
 have t4:((er:Int) != 0)=true:=by simp; omega
 clear her
 obtain⟨ca,cc,rfl,-⟩:=hv.open'
 have VA:=hZq (fun X (hX:Below w.heap.size w X) => hv.later hX)
 have b0:=bl_newZ w (.cells #[.slice ca t.length cc,.int .i64 n,.bool o] 24)
 have b1:=bl_newZ (w.alloc (.cells #[.slice ca t.length cc,.int .i64 n,.bool o] 24)) (.cells #[.slice none 0 0,.int .i64 0,.bool false] 24)
 have HB:=hZq (below2Z b0 b1)
 have CB:=newQ w (.cells #[.slice ca t.length cc,.int .i64 n,.bool o] 24)
 replace CB:=upQ CB b1
 replace CB:=hZq CB
 have RB:=newQ (w.alloc (.cells #[.slice ca t.length cc,.int .i64 n,.bool o] 24)) (.cells #[.slice none 0 0,.int .i64 0,.bool false] 24)
 rw [World.size_alloc] at RB
 replace RB:=hZq RB
 clear b0 b1
 clear hv
 go_enter Tryz.func24,Tryz.ntmps24
 go_wp2_with fail
 generalize (w.alloc (.cells #[.slice ca t.length cc,.int .i64 n,.bool o] 24)).alloc (.cells #[.slice none 0 0,.int .i64 0,.bool false] 24)=w3 at CB RB HB ⊢
 refine (frdec_any s0 hl0 HD _).mono ?_
 rintro e w4 ⟨v4,rfl,hov4,b4⟩
 replace CB:=hZq (upQ CB.out b4)
 replace RB:=hZq (upQ RB.out b4)
 replace HB:=hZq (below2Z HB.out b4)
 obtain⟨ta,tc,rfl,-⟩:=Tab.open' (OwnR.tab hov4)
 have VT:=hZq hov4
 clear hov4
 clear b4
 go_upto_region 2 with fail
 have hRB:=(Array.getElem?_eq_some_iff.1 RB.out).1
 have b5:=bl_newZ w4 (.cells #[.int .i64 0,.int .i64 0,.bool false,.string ⟨([]:List UInt8).toArray⟩,.int .i64 0,.int .i64 0,.int .i64 0,.string ⟨([]:List UInt8).toArray⟩,.int .u64 0,.slice ta 0 tc] 29)
 have FB:=newQ w4 (.cells #[.int .i64 0,.int .i64 0,.bool false,.string ⟨([]:List UInt8).toArray⟩,.int .i64 0,.int .i64 0,.int .i64 0,.string ⟨([]:List UInt8).toArray⟩,.int .u64 0,.slice ta 0 tc] 29)
 have hFB:w.heap.size≤w4.heap.size:=HB.out.size
 replace CB:=hZq (upQ CB.out b5)
 replace RB:=hZq (upQ RB.out b5)
 replace VT:=hZq (OwnR.later VT.out b5)
 replace HB:=hZq (below2Z HB.out b5)
 clear b5
 replace FB:=hZq FB
 generalize w4.alloc (.cells #[.int .i64 0,.int .i64 0,.bool false,.string ⟨([]:List UInt8).toArray⟩,.int .i64 0,.int .i64 0,.int .i64 0,.string ⟨([]:List UInt8).toArray⟩,.int .u64 0,.slice ta 0 tc] 29)=w6 at CB RB FB VT HB ⊢
 generalize w4.heap.size=BF at FB hFB hRB ⊢
 obtain⟨⟨CBc0,CBc1,CBc2⟩,⟨CBf0,CBf1,CBf2⟩⟩:=blk3 CB.out
 obtain⟨⟨RBc0,RBc1,RBc2⟩,⟨RBf0,RBf1,RBf2⟩⟩:=blk3 RB.out
 go_wp2_with fail
 clear CBc0 CBc1 CBc2 CBf0 CBf1 CBf2 RBc0 RBc1 RBc2 RBf0 RBf1 RBf2
 have hz:=stN3_heap RB.out (.slice ca t.length cc) (.int .i64 n) (.bool o)
 have hle:w.heap.size≤w.heap.size+1:=by omega
 obtain⟨⟨z0,z1,z2⟩,-⟩:=blk3 hz
 unfold stN3 at z0 z1 z2
 refine bodyPost_ret (v:=.tuple #[.agg #[.slice ca t.length cc,.int .i64 n,.bool o],.int .i64 er]) (by simp [results,Tryz.results24,go_sem,z0,z1,z2]) rfl ?_
 exact⟨_,rfl,.inl ⟨rfl,rfl⟩,((HB.out.setCell hle _).setCell hle _).setCell hle _⟩

theorem clread_o {w:World} {v:Value} {t:List Row} (hv:Tab w v t) (n:Int) (o:Bool) (s0:List UInt8) (hl0:s0.length≤4294967296) {k s sh pr si:Int} {on:Bool} {c st:List UInt8} {sum:Nat} {tt:List Row} (HD:Hid (frDec s0=(⟨k,s,on,c,⟨sh,pr,si,st⟩,sum,tt⟩,0))) (hsT:Short t) (hl:t.length≤1000) (hsh:Short tt) (hl2:tt.length≤1000) (hc:c.length≤4294967296) (hst:st.length≤4294967296) (hk:(Lit.int .i64 k).wf=true) {t2:List Row} {n2:Int} {o2:Bool} (HF:Hid (clFeed ⟨t,n,o⟩ ⟨k,s,on,c,⟨sh,pr,si,st⟩,sum,tt⟩=⟨t2,n2,o2⟩)) :
  Calls Tryz.prog 24 #[.agg #[v,.int .i64 n,.bool o],.string ⟨s0.toArray⟩] w fun e w' => ∃ u,e=.returned (.tuple #[.agg #[u,.int .i64 n2,.bool o2],.int .i64 0])∧RT w' w.heap.size u v t2 t∧Below w.heap.size w w':=by
 obtain⟨ca,cc,rfl,-⟩:=hv.open'
 have VA:=hZq (fun X (hX:Below w.heap.size w X) => hv.later hX)
 have b0:=bl_newZ w (.cells #[.slice ca t.length cc,.int .i64 n,.bool o] 24)
 have b1:=bl_newZ (w.alloc (.cells #[.slice ca t.length cc,.int .i64 n,.bool o] 24)) (.cells #[.slice none 0 0,.int .i64 0,.bool false] 24)
 have HB:=hZq (below2Z b0 b1)
 have CB:=newQ w (.cells #[.slice ca t.length cc,.int .i64 n,.bool o] 24)
 replace CB:=upQ CB b1
 replace CB:=hZq CB
 have RB:=newQ (w.alloc (.cells #[.slice ca t.length cc,.int .i64 n,.bool o] 24)) (.cells #[.slice none 0 0,.int .i64 0,.bool false] 24)
 rw [World.size_alloc] at RB
 replace RB:=hZq RB
 clear b0 b1
 clear hv
 go_enter Tryz.func24,Tryz.ntmps24
 go_wp2_with fail
 generalize (w.alloc (.cells #[.slice ca t.length cc,.int .i64 n,.bool o] 24)).alloc (.cells #[.slice none 0 0,.int .i64 0,.bool false] 24)=w3 at CB RB HB ⊢
 have hVB:Hid (w.heap.size+1+1≤w3.heap.size):=hZq (Array.getElem?_eq_some_iff.1 RB.out).1
 refine (frdec_any s0 hl0 HD _).mono ?_
 rintro e w4 ⟨v4,rfl,hov4,b4⟩
 replace CB:=hZq (upQ CB.out b4)
 replace RB:=hZq (upQ RB.out b4)
 replace HB:=hZq (below2Z HB.out b4)
 obtain⟨ta,tc,rfl,-⟩:=Tab.open' (OwnR.tab hov4)
 have VT:=hZq hov4
 clear hov4
 clear b4
 go_upto_region 2 with fail
 have hRB:=(Array.getElem?_eq_some_iff.1 RB.out).1
 have b5:=bl_newZ w4 (.cells #[.int .i64 k,.int .i64 s,.bool on,.string ⟨c.toArray⟩,.int .i64 sh,.int .i64 pr,.int .i64 si,.string ⟨st.toArray⟩,.int .u64 sum,.slice ta tt.length tc] 29)
 have FB:=newQ w4 (.cells #[.int .i64 k,.int .i64 s,.bool on,.string ⟨c.toArray⟩,.int .i64 sh,.int .i64 pr,.int .i64 si,.string ⟨st.toArray⟩,.int .u64 sum,.slice ta tt.length tc] 29)
 have hFB:w.heap.size≤w4.heap.size:=HB.out.size
 replace CB:=hZq (upQ CB.out b5)
 replace RB:=hZq (upQ RB.out b5)
 replace VT:=hZq (OwnR.later VT.out b5)
 replace HB:=hZq (below2Z HB.out b5)
 clear b5
 replace FB:=hZq FB
 generalize w4.alloc (.cells #[.int .i64 k,.int .i64 s,.bool on,.string ⟨c.toArray⟩,.int .i64 sh,.int .i64 pr,.int .i64 si,.string ⟨st.toArray⟩,.int .u64 sum,.slice ta tt.length tc] 29)=w6 at CB RB FB VT HB ⊢
 generalize w4.heap.size=BF at FB hFB hRB ⊢
 obtain⟨⟨CBc0,CBc1,CBc2⟩,⟨CBf0,CBf1,CBf2⟩⟩:=blk3 CB.out
 obtain⟨⟨FBc0,FBc1,FBc2,FBc3,FBc4,FBc5,FBc6,FBc7,FBc8,FBc9⟩,⟨FBf0,FBf1,FBf2,FBf3,FBf4,FBf5,FBf6,FBf7,FBf8,FBf9⟩⟩:=blk10 FB.out
 go_wp2_with fail
 clear CBc0 CBc1 CBc2 CBf0 CBf1 CBf2 FBc0 FBc1 FBc2 FBc3 FBc4 FBc5 FBc6 FBc7 FBc8 FBc9 FBf0 FBf1 FBf2 FBf3 FBf4 FBf5 FBf6 FBf7 FBf8 FBf9
 have hFR:=(Array.getElem?_eq_some_iff.1 FB.out).1
 refine (clfeed_any (VA.out _ HB.out) (OwnR.tab VT.out) n o hsT hsh hc hst hk hl hl2 HF).mono ?_
 rintro e w7 ⟨u7,rfl,hu7,b7⟩
 replace CB:=hZq (upQ CB.out b7)
 replace RB:=hZq (upQ RB.out b7)
 replace FB:=hZq (upQ FB.out b7)
 replace VT:=hZq (OwnR.later VT.out b7)
 replace HB:=hZq (below2Z HB.out b7)
 obtain⟨ua,un,uc,rfl⟩:=hu7.shape
 have U:=hZq (CT.mono hu7 (show w.heap.size+1+1≤_ by omega))
 clear hu7 hFR
 clear b7
 obtain⟨⟨RBc0,RBc1,RBc2⟩,⟨RBf0,RBf1,RBf2⟩⟩:=blk3 RB.out
 go_wp2_with fail
 clear RBc0 RBc1 RBc2 RBf0 RBf1 RBf2
 have hz:=stN3_heap RB.out (.slice ua un uc) (.int .i64 n2) (.bool o2)
 have hle:w.heap.size≤w.heap.size+1:=by omega
 obtain⟨⟨z0,z1,z2⟩,-⟩:=blk3 hz
 unfold stN3 at z0 z1 z2
 refine bodyPost_ret (v:=.tuple #[.agg #[.slice ua un uc,.int .i64 n2,.bool o2],.int .i64 0]) (by simp [results,Tryz.results24,go_sem,z0,z1,z2]) rfl ?_
 have hlt2:w.heap.size+1 < w.heap.size+1+1:=Nat.lt_succ_self _
 have U3:=((U.out.set (a:=⟨w.heap.size+1,0,none⟩) hlt2 (.slice ua un uc)).set (a:=⟨w.heap.size+1,1,none⟩) hlt2 (.int .i64 n2)).set (a:=⟨w.heap.size+1,2,none⟩) hlt2 (.bool o2)
 have V3:=((OwnR.setCell (a:=⟨w.heap.size+1,0,none⟩) (OwnR.mono VT.out hVB.out) hlt2 (.slice ua un uc)).setCell (a:=⟨w.heap.size+1,1,none⟩) hlt2 (.int .i64 n2)).setCell (a:=⟨w.heap.size+1,2,none⟩) hlt2 (.bool o2)
 refine ⟨_,rfl,?_,?_⟩
 ·rcases U3 with ⟨h1,h2⟩ | ⟨h1,h2⟩ | h
  ·exact .inl ⟨h1,h2⟩
  ·rw [← h1] at V3
   rw [h2]
   exact .inr (OwnR.mono V3 (by omega))
  ·exact .inr (OwnR.mono h (by omega))
 ·exact ((HB.out.setCell hle _).setCell hle _).setCell hle _

theorem clread_any {w:World} {v:Value} {t:List Row} (hv:Tab w v t) (hsT:Short t) (hl:t.length≤1000) (n:Int) (o:Bool) (s0:List UInt8) (hl0:s0.length≤4294967296) {t2:List Row} {n2:Int} {o2:Bool} {er:Nat} (h:Hid (clRead ⟨t,n,o⟩ s0=(⟨t2,n2,o2⟩,er))) :
  Calls Tryz.prog 24 #[.agg #[v,.int .i64 n,.bool o],.string ⟨s0.toArray⟩] w fun e w' => ∃ u,e=.returned (.tuple #[.agg #[u,.int .i64 n2,.bool o2],.int .i64 er])∧RT w' w.heap.size u v t2 t∧Below w.heap.size w w':=by
 have h:=h.out
 obtain⟨f,e,hd⟩ : ∃ f e,frDec s0=(f,e):=⟨_,_,rfl⟩
 by_cases he:e=0
 ·subst he
  rw [clRead_ok hd] at h
  obtain⟨m1,m2,m3,m4⟩:=dec_okC hd hl0
  obtain⟨k,s,on,c,⟨sh,pr,si,st⟩,sum,tt⟩:=f
  simp only [Prod.mk.injEq] at h
  obtain⟨h1,rfl⟩:=h
  exact clread_o hv n o s0 hl0 (hZq hd) hsT hl m2.t m3 m2.c m2.st m4 (hZq h1)
 ·obtain rfl:=dec_errC hd he
  rw [clRead_err hd he] at h
  simp only [Prod.mk.injEq,Cli.mk.injEq] at h
  obtain⟨⟨rfl,rfl,rfl⟩,rfl⟩:=h
  exact clread_e hv n o s0 hl0 (hZq hd) he

end Go.Proofs.YtekkofldhhdpgaaGreat

end
