/-
 TEXTS OF THE PROOF, one behind the other: CliRef, FraRtake.
-/
import Derived.Test.YtekkofldhhdpgaaGreatC21
import Derived.Test.YtekkofldhhdpgaaGreatC23
import Derived.Test.YtekkofldhhdpgaaGreatC06
import Derived.Test.YtekkofldhhdpgaaGreatC25
import Derived.Test.YtekkofldhhdpgaaGreatC24
import Derived.Test.YtekkofldhhdpgaaGreatC17

set_option maxHeartbeats 12800000
set_option maxRecDepth 100000

section

namespace Go.Proofs.YtekkofldhhdpgaaGreat
open Go.RowKit

theorem rset_eqC {w:World} {v:Value} {t:List Row} (hv:Tab w v t) (hl:t.length≤1000) (c st:List UInt8) (on:Bool) (a b d:Int) :
  Calls Tryz.prog 30 #[v,.agg #[.string ⟨c.toArray⟩,.bool on,.int .i64 a,.int .i64 b,.int .i64 d,.string ⟨st.toArray⟩]] w fun e w' => ∃ u,e=.returned u∧OwnR w' w.heap.size u (diSet t ⟨c,on,⟨a,b,d,st⟩⟩)∧Below w.heap.size w w' :=
 rset_any hv hl ⟨c,on,⟨a,b,d,st⟩⟩

theorem rsum_eqC {w:World} {v:Value} {t:List Row} (hv:Tab w v t) (hs:Short t) {z:Nat} (h:Hid (diSum t=z)) :
  Calls Tryz.prog 56 #[v] w fun e w' => e=.returned (.int .u64 z)∧Below w.heap.size w w':=by
 have:=rdisum_any hv hs
 rwa [h.out] at this

theorem rclmay_n {w:World} {v:Value} {t:List Row} (hv:Tab w v t) (n:Int) (o:Bool) (hs:Short t) (HR:Hid (diMay t=false))  :
  Calls Tryz.prog 22 #[.agg #[v,.int .i64 n,.bool o]] w fun e w' => e=.returned (.bool false)∧Below w.heap.size w w':=by
 obtain⟨ca,cc,rfl,-⟩:=hv.open'
 have b0:=bl_newZ w (.cells #[.slice ca t.length cc,.int .i64 n,.bool o] 24)
 have HB:=hZq b0
 have VA:=hZq (hv.later b0)
 have CB:=newQ w (.cells #[.slice ca t.length cc,.int .i64 n,.bool o] 24)
 replace CB:=hZq CB
 clear b0
 clear hv
 go_enter Tryz.func22,Tryz.ntmps22
 obtain⟨⟨CBc0,CBc1,CBc2⟩,⟨CBf0,CBf1,CBf2⟩⟩:=blk3 CB.out
 go_wp2_with fail
 clear CBc0 CBc1 CBc2 CBf0 CBf1 CBf2
 refine (rdimay_eq VA.out hs HR).mono ?_
 rintro e w2 ⟨rfl,b2⟩
 replace CB:=hZq (upQ CB.out b2)
 replace VA:=hZq (VA.out.later b2)
 replace HB:=hZq (below2Z HB.out b2)
 clear b2
 obtain⟨⟨CBc0,CBc1,CBc2⟩,⟨CBf0,CBf1,CBf2⟩⟩:=blk3 CB.out
 go_wp2_with fail
 clear CBc0 CBc1 CBc2 CBf0 CBf1 CBf2
 go_ret
 exact⟨rfl,HB.out⟩

theorem rclmay_a {w:World} {v:Value} {t:List Row} (hv:Tab w v t) (n:Int) (o:Bool) (hs:Short t) (HR:Hid (diMay t=true)) (h0:n < 0) :
  Calls Tryz.prog 22 #[.agg #[v,.int .i64 n,.bool o]] w fun e w' => e=.returned (.bool false)∧Below w.heap.size w w':=by
 have g1:decide (0≤n)=false:=by rw [decide_eq_false_iff_not]; omega
 clear h0
 obtain⟨ca,cc,rfl,-⟩:=hv.open'
 have b0:=bl_newZ w (.cells #[.slice ca t.length cc,.int .i64 n,.bool o] 24)
 have HB:=hZq b0
 have VA:=hZq (hv.later b0)
 have CB:=newQ w (.cells #[.slice ca t.length cc,.int .i64 n,.bool o] 24)
 replace CB:=hZq CB
 clear b0
 clear hv
 go_enter Tryz.func22,Tryz.ntmps22
 obtain⟨⟨CBc0,CBc1,CBc2⟩,⟨CBf0,CBf1,CBf2⟩⟩:=blk3 CB.out
 go_wp2_with fail
 clear CBc0 CBc1 CBc2 CBf0 CBf1 CBf2
 refine (rdimay_eq VA.out hs HR).mono ?_
 rintro e w2 ⟨rfl,b2⟩
 replace CB:=hZq (upQ CB.out b2)
 replace VA:=hZq (VA.out.later b2)
 replace HB:=hZq (below2Z HB.out b2)
 clear b2
 obtain⟨⟨CBc0,CBc1,CBc2⟩,⟨CBf0,CBf1,CBf2⟩⟩:=blk3 CB.out
 go_wp2_with fail
 clear CBc0 CBc1 CBc2 CBf0 CBf1 CBf2
 go_ret
 exact⟨rfl,HB.out⟩

theorem rclmay_b {w:World} {v:Value} {t:List Row} (hv:Tab w v t) (n:Int) (o:Bool) (hs:Short t) (HR:Hid (diMay t=true)) (h0:0≤n) (h1:1099511627777 < n) :
  Calls Tryz.prog 22 #[.agg #[v,.int .i64 n,.bool o]] w fun e w' => e=.returned (.bool false)∧Below w.heap.size w w':=by
 have g1:decide (0≤n)=true:=by rw [decide_eq_true_eq]; omega
 have g2:decide (n≤1099511627777)=false:=by rw [decide_eq_false_iff_not]; omega
 clear h0 h1
 obtain⟨ca,cc,rfl,-⟩:=hv.open'
 have b0:=bl_newZ w (.cells #[.slice ca t.length cc,.int .i64 n,.bool o] 24)
 have HB:=hZq b0
 have VA:=hZq (hv.later b0)
 have CB:=newQ w (.cells #[.slice ca t.length cc,.int .i64 n,.bool o] 24)
 replace CB:=hZq CB
 clear b0
 clear hv
 go_enter Tryz.func22,Tryz.ntmps22
 obtain⟨⟨CBc0,CBc1,CBc2⟩,⟨CBf0,CBf1,CBf2⟩⟩:=blk3 CB.out
 go_wp2_with fail
 clear CBc0 CBc1 CBc2 CBf0 CBf1 CBf2
 refine (rdimay_eq VA.out hs HR).mono ?_
 rintro e w2 ⟨rfl,b2⟩
 replace CB:=hZq (upQ CB.out b2)
 replace VA:=hZq (VA.out.later b2)
 replace HB:=hZq (below2Z HB.out b2)
 clear b2
 obtain⟨⟨CBc0,CBc1,CBc2⟩,⟨CBf0,CBf1,CBf2⟩⟩:=blk3 CB.out
 go_wp2_with fail
 clear CBc0 CBc1 CBc2 CBf0 CBf1 CBf2
 go_ret
 exact⟨rfl,HB.out⟩

theorem rclmay_c {w:World} {v:Value} {t:List Row} (hv:Tab w v t) (n:Int) (o:Bool) (hs:Short t) (HR:Hid (diMay t=true)) (h0:0≤n) (h1:n≤1099511627777) :
  Calls Tryz.prog 22 #[.agg #[v,.int .i64 n,.bool o]] w fun e w' => e=.returned (.bool true)∧Below w.heap.size w w':=by
 have g1:decide (0≤n)=true:=by rw [decide_eq_true_eq]; omega
 have g2:decide (n≤1099511627777)=true:=by rw [decide_eq_true_eq]; omega
 clear h0 h1
 obtain⟨ca,cc,rfl,-⟩:=hv.open'
 have b0:=bl_newZ w (.cells #[.slice ca t.length cc,.int .i64 n,.bool o] 24)
 have HB:=hZq b0
 have VA:=hZq (hv.later b0)
 have CB:=newQ w (.cells #[.slice ca t.length cc,.int .i64 n,.bool o] 24)
 replace CB:=hZq CB
 clear b0
 clear hv
 go_enter Tryz.func22,Tryz.ntmps22
 obtain⟨⟨CBc0,CBc1,CBc2⟩,⟨CBf0,CBf1,CBf2⟩⟩:=blk3 CB.out
 go_wp2_with fail
 clear CBc0 CBc1 CBc2 CBf0 CBf1 CBf2
 refine (rdimay_eq VA.out hs HR).mono ?_
 rintro e w2 ⟨rfl,b2⟩
 replace CB:=hZq (upQ CB.out b2)
 replace VA:=hZq (VA.out.later b2)
 replace HB:=hZq (below2Z HB.out b2)
 clear b2
 obtain⟨⟨CBc0,CBc1,CBc2⟩,⟨CBf0,CBf1,CBf2⟩⟩:=blk3 CB.out
 go_wp2_with fail
 clear CBc0 CBc1 CBc2 CBf0 CBf1 CBf2
 go_ret
 exact⟨rfl,HB.out⟩

theorem rclmay_eq {w:World} {v:Value} {t:List Row} (hv:Tab w v t) (hs:Short t) (n:Int) (o:Bool) {r:Bool} (h:Hid (clMay ⟨t,n,o⟩=r)) :
  Calls Tryz.prog 22 #[.agg #[v,.int .i64 n,.bool o]] w fun e w' => e=.returned (.bool r)∧Below w.heap.size w w':=by
 have h:=h.out
 unfold clMay at h
 simp only at h
 cases hd:diMay t with
 | false =>
  rw [hd,Bool.and_false] at h
  subst h
  exact rclmay_n hv n o hs (hZq hd)
 | true =>
  by_cases h0:n < 0
  ·rw [show decide (0≤n)=false by rw [decide_eq_false_iff_not]; omega] at h
   subst h
   exact rclmay_a hv n o hs (hZq hd) h0
  ·by_cases h1:1099511627777 < n
   ·rw [show decide (n≤1099511627777)=false by rw [decide_eq_false_iff_not]; omega,Bool.and_false] at h
    subst h
    exact rclmay_b hv n o hs (hZq hd) (by omega) h1
   ·rw [hd,show decide (0≤n)=true by rw [decide_eq_true_eq]; omega,show decide (n≤1099511627777)=true by rw [decide_eq_true_eq]; omega] at h
    subst h
    exact rclmay_c hv n o hs (hZq hd) (by omega) (by omega)

theorem rclfeed_c {w:World} {v vt:Value} {t:List Row} {k s sh pr si:Int} {on:Bool} {c st:List UInt8} {sum:Nat} {tt:List Row} (hv:Tab w v t) (hvt:Tab w vt tt) (n:Int) (o:Bool) (hsT:Hid (Short t)) (_hsh:Hid (Short tt)) (_hc:c.length≤4294967296) (_hst:st.length≤4294967296) (HC:Hid (clMay ⟨t,n,o⟩=false)) :
  Calls Tryz.prog 19 #[.agg #[v,.int .i64 n,.bool o],.agg #[.int .i64 k,.int .i64 s,.bool on,.string ⟨c.toArray⟩,.int .i64 sh,.int .i64 pr,.int .i64 si,.string ⟨st.toArray⟩,.int .u64 sum,vt]] w fun e w' => ∃ u,e=.returned (.agg #[u,.int .i64 n,.bool o])∧CT w' w.heap.size u v vt t t tt∧Below w.heap.size w w':=by
 obtain⟨ca,cc,rfl,-⟩:=hv.open'
 obtain⟨ta,tc,rfl,-⟩:=hvt.open'
 have VA:=hZq (fun X (hX:Below w.heap.size w X) => hv.later hX)
 have VT:=hZq (fun X (hX:Below w.heap.size w X) => hvt.later hX)
 have b0:=bl_newZ w (.cells #[.slice ca t.length cc,.int .i64 n,.bool o] 24)
 have b1:=bl_newZ (w.alloc (.cells #[.slice ca t.length cc,.int .i64 n,.bool o] 24)) (.cells #[.int .i64 k,.int .i64 s,.bool on,.string ⟨c.toArray⟩,.int .i64 sh,.int .i64 pr,.int .i64 si,.string ⟨st.toArray⟩,.int .u64 sum,.slice ta tt.length tc] 29)
 have b2:=bl_newZ ((w.alloc (.cells #[.slice ca t.length cc,.int .i64 n,.bool o] 24)).alloc (.cells #[.int .i64 k,.int .i64 s,.bool on,.string ⟨c.toArray⟩,.int .i64 sh,.int .i64 pr,.int .i64 si,.string ⟨st.toArray⟩,.int .u64 sum,.slice ta tt.length tc] 29)) (.cells #[.slice none 0 0,.int .i64 0,.bool false] 24)
 have HB:=hZq (below2Z (below2Z b0 b1) b2)
 have CB:=newQ w (.cells #[.slice ca t.length cc,.int .i64 n,.bool o] 24)
 replace CB:=upQ CB b1
 replace CB:=upQ CB b2
 replace CB:=hZq CB
 have FB:=newQ (w.alloc (.cells #[.slice ca t.length cc,.int .i64 n,.bool o] 24)) (.cells #[.int .i64 k,.int .i64 s,.bool on,.string ⟨c.toArray⟩,.int .i64 sh,.int .i64 pr,.int .i64 si,.string ⟨st.toArray⟩,.int .u64 sum,.slice ta tt.length tc] 29)
 rw [World.size_alloc] at FB
 replace FB:=upQ FB b2
 replace FB:=hZq FB
 have RB:=newQ ((w.alloc (.cells #[.slice ca t.length cc,.int .i64 n,.bool o] 24)).alloc (.cells #[.int .i64 k,.int .i64 s,.bool on,.string ⟨c.toArray⟩,.int .i64 sh,.int .i64 pr,.int .i64 si,.string ⟨st.toArray⟩,.int .u64 sum,.slice ta tt.length tc] 29)) (.cells #[.slice none 0 0,.int .i64 0,.bool false] 24)
 rw [World.size_alloc,World.size_alloc] at RB
 replace RB:=hZq RB
 clear b0 b1 b2
 clear hv hvt
 go_enter Tryz.func19,Tryz.ntmps19
 obtain⟨⟨CBc0,CBc1,CBc2⟩,⟨CBf0,CBf1,CBf2⟩⟩:=blk3 CB.out
 go_wp2_with fail
 generalize ((w.alloc (.cells #[.slice ca t.length cc,.int .i64 n,.bool o] 24)).alloc (.cells #[.int .i64 k,.int .i64 s,.bool on,.string ⟨c.toArray⟩,.int .i64 sh,.int .i64 pr,.int .i64 si,.string ⟨st.toArray⟩,.int .u64 sum,.slice ta tt.length tc] 29)).alloc (.cells #[.slice none 0 0,.int .i64 0,.bool false] 24)=w4 at CB FB RB HB ⊢
 clear CBc0 CBc1 CBc2 CBf0 CBf1 CBf2
 refine (rclmay_eq (VA.out _ HB.out) hsT.out n o HC).mono ?_
 rintro e w5 ⟨rfl,b5⟩
 replace CB:=hZq (upQ CB.out b5)
 replace FB:=hZq (upQ FB.out b5)
 replace RB:=hZq (upQ RB.out b5)
 replace HB:=hZq (below2Z HB.out b5)
 clear b5
 obtain⟨⟨CBc0,CBc1,CBc2⟩,⟨CBf0,CBf1,CBf2⟩⟩:=blk3 CB.out
 obtain⟨⟨RBc0,RBc1,RBc2⟩,⟨RBf0,RBf1,RBf2⟩⟩:=blk3 RB.out
 go_wp2_with fail
 clear CBc0 CBc1 CBc2 CBf0 CBf1 CBf2 RBc0 RBc1 RBc2 RBf0 RBf1 RBf2
 have hz:=stN3_heap RB.out (.slice ca t.length cc) (.int .i64 n) (.bool o)
 have hle:w.heap.size≤w.heap.size+1+1:=by omega
 obtain⟨⟨z0,z1,z2⟩,-⟩:=blk3 hz
 unfold stN3 at z0 z1 z2
 refine bodyPost_ret (v:=.agg #[.slice ca t.length cc,.int .i64 n,.bool o]) (by simp [results,Tryz.results19,go_sem,z0,z1,z2]) rfl ?_
 exact⟨_,rfl,.inl ⟨rfl,rfl⟩,((HB.out.setCell hle _).setCell hle _).setCell hle _⟩

theorem rclfeed_f {w:World} {v vt:Value} {t:List Row} {k s sh pr si:Int} {on:Bool} {c st:List UInt8} {sum:Nat} {tt:List Row} (hv:Tab w v t) (hvt:Tab w vt tt) (n:Int) (o:Bool) (hsT:Hid (Short t)) (hsh:Hid (Short tt)) (hc:c.length≤4294967296) (hst:st.length≤4294967296) (HC:Hid (clMay ⟨t,n,o⟩=true)) (HM:Hid (frMay ⟨k,s,on,c,⟨sh,pr,si,st⟩,sum,tt⟩=false)) :
  Calls Tryz.prog 19 #[.agg #[v,.int .i64 n,.bool o],.agg #[.int .i64 k,.int .i64 s,.bool on,.string ⟨c.toArray⟩,.int .i64 sh,.int .i64 pr,.int .i64 si,.string ⟨st.toArray⟩,.int .u64 sum,vt]] w fun e w' => ∃ u,e=.returned (.agg #[u,.int .i64 n,.bool o])∧CT w' w.heap.size u v vt t t tt∧Below w.heap.size w w':=by
 obtain⟨ca,cc,rfl,-⟩:=hv.open'
 obtain⟨ta,tc,rfl,-⟩:=hvt.open'
 have VA:=hZq (fun X (hX:Below w.heap.size w X) => hv.later hX)
 have VT:=hZq (fun X (hX:Below w.heap.size w X) => hvt.later hX)
 have b0:=bl_newZ w (.cells #[.slice ca t.length cc,.int .i64 n,.bool o] 24)
 have b1:=bl_newZ (w.alloc (.cells #[.slice ca t.length cc,.int .i64 n,.bool o] 24)) (.cells #[.int .i64 k,.int .i64 s,.bool on,.string ⟨c.toArray⟩,.int .i64 sh,.int .i64 pr,.int .i64 si,.string ⟨st.toArray⟩,.int .u64 sum,.slice ta tt.length tc] 29)
 have b2:=bl_newZ ((w.alloc (.cells #[.slice ca t.length cc,.int .i64 n,.bool o] 24)).alloc (.cells #[.int .i64 k,.int .i64 s,.bool on,.string ⟨c.toArray⟩,.int .i64 sh,.int .i64 pr,.int .i64 si,.string ⟨st.toArray⟩,.int .u64 sum,.slice ta tt.length tc] 29)) (.cells #[.slice none 0 0,.int .i64 0,.bool false] 24)
 have HB:=hZq (below2Z (below2Z b0 b1) b2)
 have CB:=newQ w (.cells #[.slice ca t.length cc,.int .i64 n,.bool o] 24)
 replace CB:=upQ CB b1
 replace CB:=upQ CB b2
 replace CB:=hZq CB
 have FB:=newQ (w.alloc (.cells #[.slice ca t.length cc,.int .i64 n,.bool o] 24)) (.cells #[.int .i64 k,.int .i64 s,.bool on,.string ⟨c.toArray⟩,.int .i64 sh,.int .i64 pr,.int .i64 si,.string ⟨st.toArray⟩,.int .u64 sum,.slice ta tt.length tc] 29)
 rw [World.size_alloc] at FB
 replace FB:=upQ FB b2
 replace FB:=hZq FB
 have RB:=newQ ((w.alloc (.cells #[.slice ca t.length cc,.int .i64 n,.bool o] 24)).alloc (.cells #[.int .i64 k,.int .i64 s,.bool on,.string ⟨c.toArray⟩,.int .i64 sh,.int .i64 pr,.int .i64 si,.string ⟨st.toArray⟩,.int .u64 sum,.slice ta tt.length tc] 29)) (.cells #[.slice none 0 0,.int .i64 0,.bool false] 24)
 rw [World.size_alloc,World.size_alloc] at RB
 replace RB:=hZq RB
 clear b0 b1 b2
 clear hv hvt
 go_enter Tryz.func19,Tryz.ntmps19
 obtain⟨⟨CBc0,CBc1,CBc2⟩,⟨CBf0,CBf1,CBf2⟩⟩:=blk3 CB.out
 go_wp2_with fail
 generalize ((w.alloc (.cells #[.slice ca t.length cc,.int .i64 n,.bool o] 24)).alloc (.cells #[.int .i64 k,.int .i64 s,.bool on,.string ⟨c.toArray⟩,.int .i64 sh,.int .i64 pr,.int .i64 si,.string ⟨st.toArray⟩,.int .u64 sum,.slice ta tt.length tc] 29)).alloc (.cells #[.slice none 0 0,.int .i64 0,.bool false] 24)=w4 at CB FB RB HB ⊢
 clear CBc0 CBc1 CBc2 CBf0 CBf1 CBf2
 refine (rclmay_eq (VA.out _ HB.out) hsT.out n o HC).mono ?_
 rintro e w5 ⟨rfl,b5⟩
 replace CB:=hZq (upQ CB.out b5)
 replace FB:=hZq (upQ FB.out b5)
 replace RB:=hZq (upQ RB.out b5)
 replace HB:=hZq (below2Z HB.out b5)
 clear b5
 obtain⟨⟨FBc0,FBc1,FBc2,FBc3,FBc4,FBc5,FBc6,FBc7,FBc8,FBc9⟩,⟨FBf0,FBf1,FBf2,FBf3,FBf4,FBf5,FBf6,FBf7,FBf8,FBf9⟩⟩:=blk10 FB.out
 go_wp2_with fail
 clear FBc0 FBc1 FBc2 FBc3 FBc4 FBc5 FBc6 FBc7 FBc8 FBc9 FBf0 FBf1 FBf2 FBf3 FBf4 FBf5 FBf6 FBf7 FBf8 FBf9
 refine (rfrmay_any (VT.out _ HB.out) hsh.out hc hst HM).mono ?_
 rintro e w6 ⟨rfl,b6⟩
 replace CB:=hZq (upQ CB.out b6)
 replace FB:=hZq (upQ FB.out b6)
 replace RB:=hZq (upQ RB.out b6)
 replace HB:=hZq (below2Z HB.out b6)
 clear b6
 obtain⟨⟨CBc0,CBc1,CBc2⟩,⟨CBf0,CBf1,CBf2⟩⟩:=blk3 CB.out
 obtain⟨⟨RBc0,RBc1,RBc2⟩,⟨RBf0,RBf1,RBf2⟩⟩:=blk3 RB.out
 go_wp2_with fail
 clear CBc0 CBc1 CBc2 CBf0 CBf1 CBf2 RBc0 RBc1 RBc2 RBf0 RBf1 RBf2
 have hz:=stN3_heap RB.out (.slice ca t.length cc) (.int .i64 n) (.bool o)
 have hle:w.heap.size≤w.heap.size+1+1:=by omega
 obtain⟨⟨z0,z1,z2⟩,-⟩:=blk3 hz
 unfold stN3 at z0 z1 z2
 refine bodyPost_ret (v:=.agg #[.slice ca t.length cc,.int .i64 n,.bool o]) (by simp [results,Tryz.results19,go_sem,z0,z1,z2]) rfl ?_
 exact⟨_,rfl,.inl ⟨rfl,rfl⟩,((HB.out.setCell hle _).setCell hle _).setCell hle _⟩

theorem rclfeed_r {w:World} {v vt:Value} {t:List Row} {s sh pr si:Int} {on:Bool} {c st:List UInt8} {sum:Nat} {tt:List Row} (hv:Tab w v t) (hvt:Tab w vt tt) (n:Int) (o:Bool) (hsT:Hid (Short t)) (hsh:Hid (Short tt)) (hc:c.length≤4294967296) (hst:st.length≤4294967296) (HC:Hid (clMay ⟨t,n,o⟩=true)) (HM:Hid (frMay ⟨4,s,on,c,⟨sh,pr,si,st⟩,sum,tt⟩=true)) :
  Calls Tryz.prog 19 #[.agg #[v,.int .i64 n,.bool o],.agg #[.int .i64 4,.int .i64 s,.bool on,.string ⟨c.toArray⟩,.int .i64 sh,.int .i64 pr,.int .i64 si,.string ⟨st.toArray⟩,.int .u64 sum,vt]] w fun e w' => ∃ u,e=.returned (.agg #[u,.int .i64 n,.bool o])∧CT w' w.heap.size u v vt t t tt∧Below w.heap.size w w':=by
 obtain⟨ca,cc,rfl,-⟩:=hv.open'
 obtain⟨ta,tc,rfl,-⟩:=hvt.open'
 have VA:=hZq (fun X (hX:Below w.heap.size w X) => hv.later hX)
 have VT:=hZq (fun X (hX:Below w.heap.size w X) => hvt.later hX)
 have b0:=bl_newZ w (.cells #[.slice ca t.length cc,.int .i64 n,.bool o] 24)
 have b1:=bl_newZ (w.alloc (.cells #[.slice ca t.length cc,.int .i64 n,.bool o] 24)) (.cells #[.int .i64 4,.int .i64 s,.bool on,.string ⟨c.toArray⟩,.int .i64 sh,.int .i64 pr,.int .i64 si,.string ⟨st.toArray⟩,.int .u64 sum,.slice ta tt.length tc] 29)
 have b2:=bl_newZ ((w.alloc (.cells #[.slice ca t.length cc,.int .i64 n,.bool o] 24)).alloc (.cells #[.int .i64 4,.int .i64 s,.bool on,.string ⟨c.toArray⟩,.int .i64 sh,.int .i64 pr,.int .i64 si,.string ⟨st.toArray⟩,.int .u64 sum,.slice ta tt.length tc] 29)) (.cells #[.slice none 0 0,.int .i64 0,.bool false] 24)
 have HB:=hZq (below2Z (below2Z b0 b1) b2)
 have CB:=newQ w (.cells #[.slice ca t.length cc,.int .i64 n,.bool o] 24)
 replace CB:=upQ CB b1
 replace CB:=upQ CB b2
 replace CB:=hZq CB
 have FB:=newQ (w.alloc (.cells #[.slice ca t.length cc,.int .i64 n,.bool o] 24)) (.cells #[.int .i64 4,.int .i64 s,.bool on,.string ⟨c.toArray⟩,.int .i64 sh,.int .i64 pr,.int .i64 si,.string ⟨st.toArray⟩,.int .u64 sum,.slice ta tt.length tc] 29)
 rw [World.size_alloc] at FB
 replace FB:=upQ FB b2
 replace FB:=hZq FB
 have RB:=newQ ((w.alloc (.cells #[.slice ca t.length cc,.int .i64 n,.bool o] 24)).alloc (.cells #[.int .i64 4,.int .i64 s,.bool on,.string ⟨c.toArray⟩,.int .i64 sh,.int .i64 pr,.int .i64 si,.string ⟨st.toArray⟩,.int .u64 sum,.slice ta tt.length tc] 29)) (.cells #[.slice none 0 0,.int .i64 0,.bool false] 24)
 rw [World.size_alloc,World.size_alloc] at RB
 replace RB:=hZq RB
 clear b0 b1 b2
 clear hv hvt
 go_enter Tryz.func19,Tryz.ntmps19
 obtain⟨⟨CBc0,CBc1,CBc2⟩,⟨CBf0,CBf1,CBf2⟩⟩:=blk3 CB.out
 go_wp2_with fail
 generalize ((w.alloc (.cells #[.slice ca t.length cc,.int .i64 n,.bool o] 24)).alloc (.cells #[.int .i64 4,.int .i64 s,.bool on,.string ⟨c.toArray⟩,.int .i64 sh,.int .i64 pr,.int .i64 si,.string ⟨st.toArray⟩,.int .u64 sum,.slice ta tt.length tc] 29)).alloc (.cells #[.slice none 0 0,.int .i64 0,.bool false] 24)=w4 at CB FB RB HB ⊢
 clear CBc0 CBc1 CBc2 CBf0 CBf1 CBf2
 refine (rclmay_eq (VA.out _ HB.out) hsT.out n o HC).mono ?_
 rintro e w5 ⟨rfl,b5⟩
 replace CB:=hZq (upQ CB.out b5)
 replace FB:=hZq (upQ FB.out b5)
 replace RB:=hZq (upQ RB.out b5)
 replace HB:=hZq (below2Z HB.out b5)
 clear b5
 obtain⟨⟨FBc0,FBc1,FBc2,FBc3,FBc4,FBc5,FBc6,FBc7,FBc8,FBc9⟩,⟨FBf0,FBf1,FBf2,FBf3,FBf4,FBf5,FBf6,FBf7,FBf8,FBf9⟩⟩:=blk10 FB.out
 go_wp2_with fail
 clear FBc0 FBc1 FBc2 FBc3 FBc4 FBc5 FBc6 FBc7 FBc8 FBc9 FBf0 FBf1 FBf2 FBf3 FBf4 FBf5 FBf6 FBf7 FBf8 FBf9
 refine (rfrmay_any (VT.out _ HB.out) hsh.out hc hst HM).mono ?_
 rintro e w6 ⟨rfl,b6⟩
 replace CB:=hZq (upQ CB.out b6)
 replace FB:=hZq (upQ FB.out b6)
 replace RB:=hZq (upQ RB.out b6)
 replace HB:=hZq (below2Z HB.out b6)
 clear b6
 obtain⟨⟨FBc0,FBc1,FBc2,FBc3,FBc4,FBc5,FBc6,FBc7,FBc8,FBc9⟩,⟨FBf0,FBf1,FBf2,FBf3,FBf4,FBf5,FBf6,FBf7,FBf8,FBf9⟩⟩:=blk10 FB.out
 obtain⟨⟨CBc0,CBc1,CBc2⟩,⟨CBf0,CBf1,CBf2⟩⟩:=blk3 CB.out
 obtain⟨⟨RBc0,RBc1,RBc2⟩,⟨RBf0,RBf1,RBf2⟩⟩:=blk3 RB.out
 go_wp2_with fail
 clear FBc0 FBc1 FBc2 FBc3 FBc4 FBc5 FBc6 FBc7 FBc8 FBc9 FBf0 FBf1 FBf2 FBf3 FBf4 FBf5 FBf6 FBf7 FBf8 FBf9 CBc0 CBc1 CBc2 CBf0 CBf1 CBf2 RBc0 RBc1 RBc2 RBf0 RBf1 RBf2
 have hz:=stN3_heap RB.out (.slice ca t.length cc) (.int .i64 n) (.bool o)
 have hle:w.heap.size≤w.heap.size+1+1:=by omega
 obtain⟨⟨z0,z1,z2⟩,-⟩:=blk3 hz
 unfold stN3 at z0 z1 z2
 refine bodyPost_ret (v:=.agg #[.slice ca t.length cc,.int .i64 n,.bool o]) (by simp [results,Tryz.results19,go_sem,z0,z1,z2]) rfl ?_
 exact⟨_,rfl,.inl ⟨rfl,rfl⟩,((HB.out.setCell hle _).setCell hle _).setCell hle _⟩

theorem rclfeed_s {w:World} {v vt:Value} {t:List Row} {k s sh pr si:Int} {on:Bool} {c st:List UInt8} {sum:Nat} {tt:List Row} (hv:Tab w v t) (hvt:Tab w vt tt) (n:Int) (o:Bool) (hsT:Hid (Short t)) (hsh:Hid (Short tt)) (hc:c.length≤4294967296) (hst:st.length≤4294967296) (hk4:¬ k=4) (HC:Hid (clMay ⟨t,n,o⟩=true)) (HM:Hid (frMay ⟨k,s,on,c,⟨sh,pr,si,st⟩,sum,tt⟩=true)) (hlt:s < n) :
  Calls Tryz.prog 19 #[.agg #[v,.int .i64 n,.bool o],.agg #[.int .i64 k,.int .i64 s,.bool on,.string ⟨c.toArray⟩,.int .i64 sh,.int .i64 pr,.int .i64 si,.string ⟨st.toArray⟩,.int .u64 sum,vt]] w fun e w' => ∃ u,e=.returned (.agg #[u,.int .i64 n,.bool o])∧CT w' w.heap.size u v vt t t tt∧Below w.heap.size w w':=by
 have g4:(k == 4)=false:=by rw [beq_eq_false_iff_ne]; exact hk4
 have g1:decide (s < n)=true:=by rw [decide_eq_true_eq]; exact hlt
 clear hlt hk4
 obtain⟨ca,cc,rfl,-⟩:=hv.open'
 obtain⟨ta,tc,rfl,-⟩:=hvt.open'
 have VA:=hZq (fun X (hX:Below w.heap.size w X) => hv.later hX)
 have VT:=hZq (fun X (hX:Below w.heap.size w X) => hvt.later hX)
 have b0:=bl_newZ w (.cells #[.slice ca t.length cc,.int .i64 n,.bool o] 24)
 have b1:=bl_newZ (w.alloc (.cells #[.slice ca t.length cc,.int .i64 n,.bool o] 24)) (.cells #[.int .i64 k,.int .i64 s,.bool on,.string ⟨c.toArray⟩,.int .i64 sh,.int .i64 pr,.int .i64 si,.string ⟨st.toArray⟩,.int .u64 sum,.slice ta tt.length tc] 29)
 have b2:=bl_newZ ((w.alloc (.cells #[.slice ca t.length cc,.int .i64 n,.bool o] 24)).alloc (.cells #[.int .i64 k,.int .i64 s,.bool on,.string ⟨c.toArray⟩,.int .i64 sh,.int .i64 pr,.int .i64 si,.string ⟨st.toArray⟩,.int .u64 sum,.slice ta tt.length tc] 29)) (.cells #[.slice none 0 0,.int .i64 0,.bool false] 24)
 have HB:=hZq (below2Z (below2Z b0 b1) b2)
 have CB:=newQ w (.cells #[.slice ca t.length cc,.int .i64 n,.bool o] 24)
 replace CB:=upQ CB b1
 replace CB:=upQ CB b2
 replace CB:=hZq CB
 have FB:=newQ (w.alloc (.cells #[.slice ca t.length cc,.int .i64 n,.bool o] 24)) (.cells #[.int .i64 k,.int .i64 s,.bool on,.string ⟨c.toArray⟩,.int .i64 sh,.int .i64 pr,.int .i64 si,.string ⟨st.toArray⟩,.int .u64 sum,.slice ta tt.length tc] 29)
 rw [World.size_alloc] at FB
 replace FB:=upQ FB b2
 replace FB:=hZq FB
 have RB:=newQ ((w.alloc (.cells #[.slice ca t.length cc,.int .i64 n,.bool o] 24)).alloc (.cells #[.int .i64 k,.int .i64 s,.bool on,.string ⟨c.toArray⟩,.int .i64 sh,.int .i64 pr,.int .i64 si,.string ⟨st.toArray⟩,.int .u64 sum,.slice ta tt.length tc] 29)) (.cells #[.slice none 0 0,.int .i64 0,.bool false] 24)
 rw [World.size_alloc,World.size_alloc] at RB
 replace RB:=hZq RB
 clear b0 b1 b2
 clear hv hvt
 go_enter Tryz.func19,Tryz.ntmps19
 obtain⟨⟨CBc0,CBc1,CBc2⟩,⟨CBf0,CBf1,CBf2⟩⟩:=blk3 CB.out
 go_wp2_with fail
 generalize ((w.alloc (.cells #[.slice ca t.length cc,.int .i64 n,.bool o] 24)).alloc (.cells #[.int .i64 k,.int .i64 s,.bool on,.string ⟨c.toArray⟩,.int .i64 sh,.int .i64 pr,.int .i64 si,.string ⟨st.toArray⟩,.int .u64 sum,.slice ta tt.length tc] 29)).alloc (.cells #[.slice none 0 0,.int .i64 0,.bool false] 24)=w4 at CB FB RB HB ⊢
 clear CBc0 CBc1 CBc2 CBf0 CBf1 CBf2
 refine (rclmay_eq (VA.out _ HB.out) hsT.out n o HC).mono ?_
 rintro e w5 ⟨rfl,b5⟩
 replace CB:=hZq (upQ CB.out b5)
 replace FB:=hZq (upQ FB.out b5)
 replace RB:=hZq (upQ RB.out b5)
 replace HB:=hZq (below2Z HB.out b5)
 clear b5
 obtain⟨⟨FBc0,FBc1,FBc2,FBc3,FBc4,FBc5,FBc6,FBc7,FBc8,FBc9⟩,⟨FBf0,FBf1,FBf2,FBf3,FBf4,FBf5,FBf6,FBf7,FBf8,FBf9⟩⟩:=blk10 FB.out
 go_wp2_with fail
 clear FBc0 FBc1 FBc2 FBc3 FBc4 FBc5 FBc6 FBc7 FBc8 FBc9 FBf0 FBf1 FBf2 FBf3 FBf4 FBf5 FBf6 FBf7 FBf8 FBf9
 refine (rfrmay_any (VT.out _ HB.out) hsh.out hc hst HM).mono ?_
 rintro e w6 ⟨rfl,b6⟩
 replace CB:=hZq (upQ CB.out b6)
 replace FB:=hZq (upQ FB.out b6)
 replace RB:=hZq (upQ RB.out b6)
 replace HB:=hZq (below2Z HB.out b6)
 clear b6
 obtain⟨⟨FBc0,FBc1,FBc2,FBc3,FBc4,FBc5,FBc6,FBc7,FBc8,FBc9⟩,⟨FBf0,FBf1,FBf2,FBf3,FBf4,FBf5,FBf6,FBf7,FBf8,FBf9⟩⟩:=blk10 FB.out
 obtain⟨⟨CBc0,CBc1,CBc2⟩,⟨CBf0,CBf1,CBf2⟩⟩:=blk3 CB.out
 obtain⟨⟨RBc0,RBc1,RBc2⟩,⟨RBf0,RBf1,RBf2⟩⟩:=blk3 RB.out
 go_wp2_with fail
 clear FBc0 FBc1 FBc2 FBc3 FBc4 FBc5 FBc6 FBc7 FBc8 FBc9 FBf0 FBf1 FBf2 FBf3 FBf4 FBf5 FBf6 FBf7 FBf8 FBf9 CBc0 CBc1 CBc2 CBf0 CBf1 CBf2 RBc0 RBc1 RBc2 RBf0 RBf1 RBf2
 have hz:=stN3_heap RB.out (.slice ca t.length cc) (.int .i64 n) (.bool o)
 have hle:w.heap.size≤w.heap.size+1+1:=by omega
 obtain⟨⟨z0,z1,z2⟩,-⟩:=blk3 hz
 unfold stN3 at z0 z1 z2
 refine bodyPost_ret (v:=.agg #[.slice ca t.length cc,.int .i64 n,.bool o]) (by simp [results,Tryz.results19,go_sem,z0,z1,z2]) rfl ?_
 exact⟨_,rfl,.inl ⟨rfl,rfl⟩,((HB.out.setCell hle _).setCell hle _).setCell hle _⟩

theorem rclfeed_3 {w:World} {v vt:Value} {t:List Row} {s sh pr si:Int} {on:Bool} {c st:List UInt8} {sum:Nat} {tt:List Row} (hv:Tab w v t) (hvt:Tab w vt tt) (n:Int) (o:Bool) (hsT:Hid (Short t)) (hsh:Hid (Short tt)) (hc:c.length≤4294967296) (hst:st.length≤4294967296) (HC:Hid (clMay ⟨t,n,o⟩=true)) (HM:Hid (frMay ⟨3,s,on,c,⟨sh,pr,si,st⟩,sum,tt⟩=true)) (hns:n≤s∧0≤s∧s≤1099511627776) :
  Calls Tryz.prog 19 #[.agg #[v,.int .i64 n,.bool o],.agg #[.int .i64 3,.int .i64 s,.bool on,.string ⟨c.toArray⟩,.int .i64 sh,.int .i64 pr,.int .i64 si,.string ⟨st.toArray⟩,.int .u64 sum,vt]] w fun e w' => ∃ u,e=.returned (.agg #[u,.int .i64 (s+1),.bool false])∧CT w' w.heap.size u v vt tt t tt∧Below w.heap.size w w':=by
 have g1:decide (s < n)=false:=by rw [decide_eq_false_iff_not]; omega
 have hw:IntKind.i64.wrap (s+1)=s+1:=IntWalk.i64_in _ (by omega)
 obtain⟨ca,cc,rfl,-⟩:=hv.open'
 obtain⟨ta,tc,rfl,-⟩:=hvt.open'
 have VA:=hZq (fun X (hX:Below w.heap.size w X) => hv.later hX)
 have VT:=hZq (fun X (hX:Below w.heap.size w X) => hvt.later hX)
 have b0:=bl_newZ w (.cells #[.slice ca t.length cc,.int .i64 n,.bool o] 24)
 have b1:=bl_newZ (w.alloc (.cells #[.slice ca t.length cc,.int .i64 n,.bool o] 24)) (.cells #[.int .i64 3,.int .i64 s,.bool on,.string ⟨c.toArray⟩,.int .i64 sh,.int .i64 pr,.int .i64 si,.string ⟨st.toArray⟩,.int .u64 sum,.slice ta tt.length tc] 29)
 have b2:=bl_newZ ((w.alloc (.cells #[.slice ca t.length cc,.int .i64 n,.bool o] 24)).alloc (.cells #[.int .i64 3,.int .i64 s,.bool on,.string ⟨c.toArray⟩,.int .i64 sh,.int .i64 pr,.int .i64 si,.string ⟨st.toArray⟩,.int .u64 sum,.slice ta tt.length tc] 29)) (.cells #[.slice none 0 0,.int .i64 0,.bool false] 24)
 have HB:=hZq (below2Z (below2Z b0 b1) b2)
 have CB:=newQ w (.cells #[.slice ca t.length cc,.int .i64 n,.bool o] 24)
 replace CB:=upQ CB b1
 replace CB:=upQ CB b2
 replace CB:=hZq CB
 have FB:=newQ (w.alloc (.cells #[.slice ca t.length cc,.int .i64 n,.bool o] 24)) (.cells #[.int .i64 3,.int .i64 s,.bool on,.string ⟨c.toArray⟩,.int .i64 sh,.int .i64 pr,.int .i64 si,.string ⟨st.toArray⟩,.int .u64 sum,.slice ta tt.length tc] 29)
 rw [World.size_alloc] at FB
 replace FB:=upQ FB b2
 replace FB:=hZq FB
 have RB:=newQ ((w.alloc (.cells #[.slice ca t.length cc,.int .i64 n,.bool o] 24)).alloc (.cells #[.int .i64 3,.int .i64 s,.bool on,.string ⟨c.toArray⟩,.int .i64 sh,.int .i64 pr,.int .i64 si,.string ⟨st.toArray⟩,.int .u64 sum,.slice ta tt.length tc] 29)) (.cells #[.slice none 0 0,.int .i64 0,.bool false] 24)
 rw [World.size_alloc,World.size_alloc] at RB
 replace RB:=hZq RB
 clear b0 b1 b2
 clear hv hvt
 go_enter Tryz.func19,Tryz.ntmps19
 obtain⟨⟨CBc0,CBc1,CBc2⟩,⟨CBf0,CBf1,CBf2⟩⟩:=blk3 CB.out
 go_wp2_with fail
 generalize ((w.alloc (.cells #[.slice ca t.length cc,.int .i64 n,.bool o] 24)).alloc (.cells #[.int .i64 3,.int .i64 s,.bool on,.string ⟨c.toArray⟩,.int .i64 sh,.int .i64 pr,.int .i64 si,.string ⟨st.toArray⟩,.int .u64 sum,.slice ta tt.length tc] 29)).alloc (.cells #[.slice none 0 0,.int .i64 0,.bool false] 24)=w4 at CB FB RB HB ⊢
 clear CBc0 CBc1 CBc2 CBf0 CBf1 CBf2
 refine (rclmay_eq (VA.out _ HB.out) hsT.out n o HC).mono ?_
 rintro e w5 ⟨rfl,b5⟩
 replace CB:=hZq (upQ CB.out b5)
 replace FB:=hZq (upQ FB.out b5)
 replace RB:=hZq (upQ RB.out b5)
 replace HB:=hZq (below2Z HB.out b5)
 clear b5
 obtain⟨⟨FBc0,FBc1,FBc2,FBc3,FBc4,FBc5,FBc6,FBc7,FBc8,FBc9⟩,⟨FBf0,FBf1,FBf2,FBf3,FBf4,FBf5,FBf6,FBf7,FBf8,FBf9⟩⟩:=blk10 FB.out
 go_wp2_with fail
 clear FBc0 FBc1 FBc2 FBc3 FBc4 FBc5 FBc6 FBc7 FBc8 FBc9 FBf0 FBf1 FBf2 FBf3 FBf4 FBf5 FBf6 FBf7 FBf8 FBf9
 refine (rfrmay_any (VT.out _ HB.out) hsh.out hc hst HM).mono ?_
 rintro e w6 ⟨rfl,b6⟩
 replace CB:=hZq (upQ CB.out b6)
 replace FB:=hZq (upQ FB.out b6)
 replace RB:=hZq (upQ RB.out b6)
 replace HB:=hZq (below2Z HB.out b6)
 clear b6
 obtain⟨⟨CBc0,CBc1,CBc2⟩,⟨CBf0,CBf1,CBf2⟩⟩:=blk3 CB.out
 obtain⟨⟨FBc0,FBc1,FBc2,FBc3,FBc4,FBc5,FBc6,FBc7,FBc8,FBc9⟩,⟨FBf0,FBf1,FBf2,FBf3,FBf4,FBf5,FBf6,FBf7,FBf8,FBf9⟩⟩:=blk10 FB.out
 have hRB:=(Array.getElem?_eq_some_iff.1 RB.out).1
 have hCB:=(Array.getElem?_eq_some_iff.1 CB.out).1
 have hFB:=(Array.getElem?_eq_some_iff.1 FB.out).1
 go_upto_region 4 with fail
 clear CBc0 CBc1 CBc2 CBf0 CBf1 CBf2 FBc0 FBc1 FBc2 FBc3 FBc4 FBc5 FBc6 FBc7 FBc8 FBc9 FBf0 FBf1 FBf2 FBf3 FBf4 FBf5 FBf6 FBf7 FBf8 FBf9
 have b7:=bl_newZ w6 (.cells #[.slice ca t.length cc,.int .i64 (s+1),.bool o] 24)
 have DB:=newQ w6 (.cells #[.slice ca t.length cc,.int .i64 (s+1),.bool o] 24)
 have hDB:w.heap.size≤w6.heap.size:=HB.out.size
 replace CB:=hZq (upQ CB.out b7)
 replace FB:=hZq (upQ FB.out b7)
 replace RB:=hZq (upQ RB.out b7)
 replace HB:=hZq (below2Z HB.out b7)
 clear b7
 replace DB:=hZq DB
 generalize w6.alloc (.cells #[.slice ca t.length cc,.int .i64 (s+1),.bool o] 24)=w8 at CB FB RB DB HB ⊢
 generalize w6.heap.size=BD at DB hDB hRB hCB hFB ⊢
 clear hCB hFB
 obtain⟨⟨FBc0,FBc1,FBc2,FBc3,FBc4,FBc5,FBc6,FBc7,FBc8,FBc9⟩,⟨FBf0,FBf1,FBf2,FBf3,FBf4,FBf5,FBf6,FBf7,FBf8,FBf9⟩⟩:=blk10 FB.out
 go_upto_region 5 with fail
 clear FBc0 FBc1 FBc2 FBc3 FBc4 FBc5 FBc6 FBc7 FBc8 FBc9 FBf0 FBf1 FBf2 FBf3 FBf4 FBf5 FBf6 FBf7 FBf8 FBf9
 obtain⟨⟨FBc0,FBc1,FBc2,FBc3,FBc4,FBc5,FBc6,FBc7,FBc8,FBc9⟩,⟨FBf0,FBf1,FBf2,FBf3,FBf4,FBf5,FBf6,FBf7,FBf8,FBf9⟩⟩:=blk10 FB.out
 obtain⟨⟨DBc0,DBc1,DBc2⟩,⟨DBf0,DBf1,DBf2⟩⟩:=blk3 DB.out
 go_upto_region 6 with fail
 clear FBc0 FBc1 FBc2 FBc3 FBc4 FBc5 FBc6 FBc7 FBc8 FBc9 FBf0 FBf1 FBf2 FBf3 FBf4 FBf5 FBf6 FBf7 FBf8 FBf9 DBc0 DBc1 DBc2 DBf0 DBf1 DBf2
 have DBz:Hid ((w8.setCell ⟨BD,0,none⟩ (.slice ta tt.length tc)).heap[BD]?=some (.cells #[.slice ta tt.length tc,.int .i64 (s+1),.bool o] 24 (0,0))):=hZq (heap_setCell_same w8 BD 0 _ _ (.slice ta tt.length tc) DB.out)
 have CBz:Hid ((w8.setCell ⟨BD,0,none⟩ (.slice ta tt.length tc)).heap[w.heap.size]?=some (.cells #[.slice ca t.length cc,.int .i64 n,.bool o] 24 (0,0))):=hZq ((Below.heap_setCell _ _ _ (w.heap.size) (show ¬ w.heap.size=BD by omega)).trans CB.out)
 have FBz:Hid ((w8.setCell ⟨BD,0,none⟩ (.slice ta tt.length tc)).heap[w.heap.size+1]?=some (.cells #[.int .i64 3,.int .i64 s,.bool on,.string ⟨c.toArray⟩,.int .i64 sh,.int .i64 pr,.int .i64 si,.string ⟨st.toArray⟩,.int .u64 sum,.slice ta tt.length tc] 29 (0,0))):=hZq ((Below.heap_setCell _ _ _ (w.heap.size+1) (show ¬ w.heap.size+1=BD by omega)).trans FB.out)
 have RBz:Hid ((w8.setCell ⟨BD,0,none⟩ (.slice ta tt.length tc)).heap[w.heap.size+1+1]?=some (.cells #[.slice none 0 0,.int .i64 0,.bool false] 24 (0,0))):=hZq ((Below.heap_setCell _ _ _ (w.heap.size+1+1) (show ¬ w.heap.size+1+1=BD by omega)).trans RB.out)
 have HBz:Hid (Below w.heap.size w (w8.setCell ⟨BD,0,none⟩ (.slice ta tt.length tc))):=hZq (HB.out.setCell (show w.heap.size≤BD by omega) _)
 clear HB CB FB RB DB
 generalize w8.setCell ⟨BD,0,none⟩ (.slice ta tt.length tc)=w9 at CBz FBz RBz DBz HBz ⊢
 have CB:=CBz
 clear CBz
 have FB:=FBz
 clear FBz
 have RB:=RBz
 clear RBz
 have DB:=DBz
 clear DBz
 have HB:=HBz
 clear HBz
 obtain⟨⟨DBc0,DBc1,DBc2⟩,⟨DBf0,DBf1,DBf2⟩⟩:=blk3 DB.out
 go_upto_region 7 with fail
 clear DBc0 DBc1 DBc2 DBf0 DBf1 DBf2
 have DBz:Hid ((w9.setCell ⟨BD,2,none⟩ (.bool false)).heap[BD]?=some (.cells #[.slice ta tt.length tc,.int .i64 (s+1),.bool false] 24 (0,0))):=hZq (heap_setCell_same w9 BD 2 _ _ (.bool false) DB.out)
 have CBz:Hid ((w9.setCell ⟨BD,2,none⟩ (.bool false)).heap[w.heap.size]?=some (.cells #[.slice ca t.length cc,.int .i64 n,.bool o] 24 (0,0))):=hZq ((Below.heap_setCell _ _ _ (w.heap.size) (show ¬ w.heap.size=BD by omega)).trans CB.out)
 have FBz:Hid ((w9.setCell ⟨BD,2,none⟩ (.bool false)).heap[w.heap.size+1]?=some (.cells #[.int .i64 3,.int .i64 s,.bool on,.string ⟨c.toArray⟩,.int .i64 sh,.int .i64 pr,.int .i64 si,.string ⟨st.toArray⟩,.int .u64 sum,.slice ta tt.length tc] 29 (0,0))):=hZq ((Below.heap_setCell _ _ _ (w.heap.size+1) (show ¬ w.heap.size+1=BD by omega)).trans FB.out)
 have RBz:Hid ((w9.setCell ⟨BD,2,none⟩ (.bool false)).heap[w.heap.size+1+1]?=some (.cells #[.slice none 0 0,.int .i64 0,.bool false] 24 (0,0))):=hZq ((Below.heap_setCell _ _ _ (w.heap.size+1+1) (show ¬ w.heap.size+1+1=BD by omega)).trans RB.out)
 have HBz:Hid (Below w.heap.size w (w9.setCell ⟨BD,2,none⟩ (.bool false))):=hZq (HB.out.setCell (show w.heap.size≤BD by omega) _)
 clear HB CB FB RB DB
 generalize w9.setCell ⟨BD,2,none⟩ (.bool false)=w10 at CBz FBz RBz DBz HBz ⊢
 have CB:=CBz
 clear CBz
 have FB:=FBz
 clear FBz
 have RB:=RBz
 clear RBz
 have DB:=DBz
 clear DBz
 have HB:=HBz
 clear HBz
 obtain⟨⟨DBc0,DBc1,DBc2⟩,⟨DBf0,DBf1,DBf2⟩⟩:=blk3 DB.out
 obtain⟨⟨RBc0,RBc1,RBc2⟩,⟨RBf0,RBf1,RBf2⟩⟩:=blk3 RB.out
 go_wp2_with fail
 clear DBc0 DBc1 DBc2 DBf0 DBf1 DBf2 RBc0 RBc1 RBc2 RBf0 RBf1 RBf2
 have hz:=stN3_heap RB.out (.slice ta tt.length tc) (.int .i64 (s+1)) (.bool false)
 have hle:w.heap.size≤w.heap.size+1+1:=by omega
 obtain⟨⟨z0,z1,z2⟩,-⟩:=blk3 hz
 unfold stN3 at z0 z1 z2
 refine bodyPost_ret (v:=.agg #[.slice ta tt.length tc,.int .i64 (s+1),.bool false]) (by simp [results,Tryz.results19,go_sem,z0,z1,z2]) rfl ?_
 exact⟨_,rfl,.inr (.inl ⟨rfl,rfl⟩),((HB.out.setCell hle _).setCell hle _).setCell hle _⟩

theorem rclfeed_o1 {w:World} {v vt:Value} {t:List Row} {k s sh pr si:Int} {on:Bool} {c st:List UInt8} {sum:Nat} {tt:List Row} (hv:Tab w v t) (hvt:Tab w vt tt) (n:Int) (hsT:Hid (Short t)) (hsh:Hid (Short tt)) (hc:c.length≤4294967296) (hst:st.length≤4294967296) (hk3:¬ k=3) (hk4:¬ k=4) (HC:Hid (clMay ⟨t,n,true⟩=true)) (HM:Hid (frMay ⟨k,s,on,c,⟨sh,pr,si,st⟩,sum,tt⟩=true)) (hns:n≤s∧0≤s∧s≤1099511627776) :
  Calls Tryz.prog 19 #[.agg #[v,.int .i64 n,.bool true],.agg #[.int .i64 k,.int .i64 s,.bool on,.string ⟨c.toArray⟩,.int .i64 sh,.int .i64 pr,.int .i64 si,.string ⟨st.toArray⟩,.int .u64 sum,vt]] w fun e w' => ∃ u,e=.returned (.agg #[u,.int .i64 (s+1),.bool true])∧CT w' w.heap.size u v vt t t tt∧Below w.heap.size w w':=by
 have g4:(k == 4)=false:=by rw [beq_eq_false_iff_ne]; exact hk4
 have g3:(k == 3)=false:=by rw [beq_eq_false_iff_ne]; exact hk3
 have g1:decide (s < n)=false:=by rw [decide_eq_false_iff_not]; omega
 have hw:IntKind.i64.wrap (s+1)=s+1:=IntWalk.i64_in _ (by omega)
 obtain⟨ca,cc,rfl,-⟩:=hv.open'
 obtain⟨ta,tc,rfl,-⟩:=hvt.open'
 have VA:=hZq (fun X (hX:Below w.heap.size w X) => hv.later hX)
 have VT:=hZq (fun X (hX:Below w.heap.size w X) => hvt.later hX)
 have b0:=bl_newZ w (.cells #[.slice ca t.length cc,.int .i64 n,.bool true] 24)
 have b1:=bl_newZ (w.alloc (.cells #[.slice ca t.length cc,.int .i64 n,.bool true] 24)) (.cells #[.int .i64 k,.int .i64 s,.bool on,.string ⟨c.toArray⟩,.int .i64 sh,.int .i64 pr,.int .i64 si,.string ⟨st.toArray⟩,.int .u64 sum,.slice ta tt.length tc] 29)
 have b2:=bl_newZ ((w.alloc (.cells #[.slice ca t.length cc,.int .i64 n,.bool true] 24)).alloc (.cells #[.int .i64 k,.int .i64 s,.bool on,.string ⟨c.toArray⟩,.int .i64 sh,.int .i64 pr,.int .i64 si,.string ⟨st.toArray⟩,.int .u64 sum,.slice ta tt.length tc] 29)) (.cells #[.slice none 0 0,.int .i64 0,.bool false] 24)
 have HB:=hZq (below2Z (below2Z b0 b1) b2)
 have CB:=newQ w (.cells #[.slice ca t.length cc,.int .i64 n,.bool true] 24)
 replace CB:=upQ CB b1
 replace CB:=upQ CB b2
 replace CB:=hZq CB
 have FB:=newQ (w.alloc (.cells #[.slice ca t.length cc,.int .i64 n,.bool true] 24)) (.cells #[.int .i64 k,.int .i64 s,.bool on,.string ⟨c.toArray⟩,.int .i64 sh,.int .i64 pr,.int .i64 si,.string ⟨st.toArray⟩,.int .u64 sum,.slice ta tt.length tc] 29)
 rw [World.size_alloc] at FB
 replace FB:=upQ FB b2
 replace FB:=hZq FB
 have RB:=newQ ((w.alloc (.cells #[.slice ca t.length cc,.int .i64 n,.bool true] 24)).alloc (.cells #[.int .i64 k,.int .i64 s,.bool on,.string ⟨c.toArray⟩,.int .i64 sh,.int .i64 pr,.int .i64 si,.string ⟨st.toArray⟩,.int .u64 sum,.slice ta tt.length tc] 29)) (.cells #[.slice none 0 0,.int .i64 0,.bool false] 24)
 rw [World.size_alloc,World.size_alloc] at RB
 replace RB:=hZq RB
 clear b0 b1 b2
 clear hv hvt
 go_enter Tryz.func19,Tryz.ntmps19
 obtain⟨⟨CBc0,CBc1,CBc2⟩,⟨CBf0,CBf1,CBf2⟩⟩:=blk3 CB.out
 go_wp2_with fail
 generalize ((w.alloc (.cells #[.slice ca t.length cc,.int .i64 n,.bool true] 24)).alloc (.cells #[.int .i64 k,.int .i64 s,.bool on,.string ⟨c.toArray⟩,.int .i64 sh,.int .i64 pr,.int .i64 si,.string ⟨st.toArray⟩,.int .u64 sum,.slice ta tt.length tc] 29)).alloc (.cells #[.slice none 0 0,.int .i64 0,.bool false] 24)=w4 at CB FB RB HB ⊢
 clear CBc0 CBc1 CBc2 CBf0 CBf1 CBf2
 refine (rclmay_eq (VA.out _ HB.out) hsT.out n true HC).mono ?_
 rintro e w5 ⟨rfl,b5⟩
 replace CB:=hZq (upQ CB.out b5)
 replace FB:=hZq (upQ FB.out b5)
 replace RB:=hZq (upQ RB.out b5)
 replace HB:=hZq (below2Z HB.out b5)
 clear b5
 obtain⟨⟨FBc0,FBc1,FBc2,FBc3,FBc4,FBc5,FBc6,FBc7,FBc8,FBc9⟩,⟨FBf0,FBf1,FBf2,FBf3,FBf4,FBf5,FBf6,FBf7,FBf8,FBf9⟩⟩:=blk10 FB.out
 go_wp2_with fail
 clear FBc0 FBc1 FBc2 FBc3 FBc4 FBc5 FBc6 FBc7 FBc8 FBc9 FBf0 FBf1 FBf2 FBf3 FBf4 FBf5 FBf6 FBf7 FBf8 FBf9
 refine (rfrmay_any (VT.out _ HB.out) hsh.out hc hst HM).mono ?_
 rintro e w6 ⟨rfl,b6⟩
 replace CB:=hZq (upQ CB.out b6)
 replace FB:=hZq (upQ FB.out b6)
 replace RB:=hZq (upQ RB.out b6)
 replace HB:=hZq (below2Z HB.out b6)
 clear b6
 obtain⟨⟨CBc0,CBc1,CBc2⟩,⟨CBf0,CBf1,CBf2⟩⟩:=blk3 CB.out
 obtain⟨⟨FBc0,FBc1,FBc2,FBc3,FBc4,FBc5,FBc6,FBc7,FBc8,FBc9⟩,⟨FBf0,FBf1,FBf2,FBf3,FBf4,FBf5,FBf6,FBf7,FBf8,FBf9⟩⟩:=blk10 FB.out
 have hRB:=(Array.getElem?_eq_some_iff.1 RB.out).1
 have hCB:=(Array.getElem?_eq_some_iff.1 CB.out).1
 have hFB:=(Array.getElem?_eq_some_iff.1 FB.out).1
 go_upto_region 4 with fail
 clear CBc0 CBc1 CBc2 CBf0 CBf1 CBf2 FBc0 FBc1 FBc2 FBc3 FBc4 FBc5 FBc6 FBc7 FBc8 FBc9 FBf0 FBf1 FBf2 FBf3 FBf4 FBf5 FBf6 FBf7 FBf8 FBf9
 have b7:=bl_newZ w6 (.cells #[.slice ca t.length cc,.int .i64 (s+1),.bool true] 24)
 have DB:=newQ w6 (.cells #[.slice ca t.length cc,.int .i64 (s+1),.bool true] 24)
 have hDB:w.heap.size≤w6.heap.size:=HB.out.size
 replace CB:=hZq (upQ CB.out b7)
 replace FB:=hZq (upQ FB.out b7)
 replace RB:=hZq (upQ RB.out b7)
 replace HB:=hZq (below2Z HB.out b7)
 clear b7
 replace DB:=hZq DB
 generalize w6.alloc (.cells #[.slice ca t.length cc,.int .i64 (s+1),.bool true] 24)=w8 at CB FB RB DB HB ⊢
 generalize w6.heap.size=BD at DB hDB hRB hCB hFB ⊢
 clear hCB hFB
 obtain⟨⟨FBc0,FBc1,FBc2,FBc3,FBc4,FBc5,FBc6,FBc7,FBc8,FBc9⟩,⟨FBf0,FBf1,FBf2,FBf3,FBf4,FBf5,FBf6,FBf7,FBf8,FBf9⟩⟩:=blk10 FB.out
 obtain⟨⟨CBc0,CBc1,CBc2⟩,⟨CBf0,CBf1,CBf2⟩⟩:=blk3 CB.out
 obtain⟨⟨DBc0,DBc1,DBc2⟩,⟨DBf0,DBf1,DBf2⟩⟩:=blk3 DB.out
 go_upto_region 9 with fail
 clear FBc0 FBc1 FBc2 FBc3 FBc4 FBc5 FBc6 FBc7 FBc8 FBc9 FBf0 FBf1 FBf2 FBf3 FBf4 FBf5 FBf6 FBf7 FBf8 FBf9 CBc0 CBc1 CBc2 CBf0 CBf1 CBf2 DBc0 DBc1 DBc2 DBf0 DBf1 DBf2
 have DBz:Hid ((w8.setCell ⟨BD,2,none⟩ (.bool true)).heap[BD]?=some (.cells #[.slice ca t.length cc,.int .i64 (s+1),.bool true] 24 (0,0))):=hZq (heap_setCell_same w8 BD 2 _ _ (.bool true) DB.out)
 have CBz:Hid ((w8.setCell ⟨BD,2,none⟩ (.bool true)).heap[w.heap.size]?=some (.cells #[.slice ca t.length cc,.int .i64 n,.bool true] 24 (0,0))):=hZq ((Below.heap_setCell _ _ _ (w.heap.size) (show ¬ w.heap.size=BD by omega)).trans CB.out)
 have FBz:Hid ((w8.setCell ⟨BD,2,none⟩ (.bool true)).heap[w.heap.size+1]?=some (.cells #[.int .i64 k,.int .i64 s,.bool on,.string ⟨c.toArray⟩,.int .i64 sh,.int .i64 pr,.int .i64 si,.string ⟨st.toArray⟩,.int .u64 sum,.slice ta tt.length tc] 29 (0,0))):=hZq ((Below.heap_setCell _ _ _ (w.heap.size+1) (show ¬ w.heap.size+1=BD by omega)).trans FB.out)
 have RBz:Hid ((w8.setCell ⟨BD,2,none⟩ (.bool true)).heap[w.heap.size+1+1]?=some (.cells #[.slice none 0 0,.int .i64 0,.bool false] 24 (0,0))):=hZq ((Below.heap_setCell _ _ _ (w.heap.size+1+1) (show ¬ w.heap.size+1+1=BD by omega)).trans RB.out)
 have HBz:Hid (Below w.heap.size w (w8.setCell ⟨BD,2,none⟩ (.bool true))):=hZq (HB.out.setCell (show w.heap.size≤BD by omega) _)
 clear HB CB FB RB DB
 generalize w8.setCell ⟨BD,2,none⟩ (.bool true)=w9 at CBz FBz RBz DBz HBz ⊢
 have CB:=CBz
 clear CBz
 have FB:=FBz
 clear FBz
 have RB:=RBz
 clear RBz
 have DB:=DBz
 clear DBz
 have HB:=HBz
 clear HBz
 obtain⟨⟨DBc0,DBc1,DBc2⟩,⟨DBf0,DBf1,DBf2⟩⟩:=blk3 DB.out
 obtain⟨⟨RBc0,RBc1,RBc2⟩,⟨RBf0,RBf1,RBf2⟩⟩:=blk3 RB.out
 go_wp2_with fail
 clear DBc0 DBc1 DBc2 DBf0 DBf1 DBf2 RBc0 RBc1 RBc2 RBf0 RBf1 RBf2
 have hz:=stN3_heap RB.out (.slice ca t.length cc) (.int .i64 (s+1)) (.bool true)
 have hle:w.heap.size≤w.heap.size+1+1:=by omega
 obtain⟨⟨z0,z1,z2⟩,-⟩:=blk3 hz
 unfold stN3 at z0 z1 z2
 refine bodyPost_ret (v:=.agg #[.slice ca t.length cc,.int .i64 (s+1),.bool true]) (by simp [results,Tryz.results19,go_sem,z0,z1,z2]) rfl ?_
 exact⟨_,rfl,.inl ⟨rfl,rfl⟩,((HB.out.setCell hle _).setCell hle _).setCell hle _⟩

theorem rclfeed_o2 {w:World} {v vt:Value} {t:List Row} {k s sh pr si:Int} {on:Bool} {c st:List UInt8} {sum:Nat} {tt:List Row} (hv:Tab w v t) (hvt:Tab w vt tt) (n:Int) (hsT:Hid (Short t)) (hsh:Hid (Short tt)) (hc:c.length≤4294967296) (hst:st.length≤4294967296) (hk3:¬ k=3) (hk4:¬ k=4) (hg:n < s) (HC:Hid (clMay ⟨t,n,false⟩=true)) (HM:Hid (frMay ⟨k,s,on,c,⟨sh,pr,si,st⟩,sum,tt⟩=true)) (hns:n≤s∧0≤s∧s≤1099511627776) :
  Calls Tryz.prog 19 #[.agg #[v,.int .i64 n,.bool false],.agg #[.int .i64 k,.int .i64 s,.bool on,.string ⟨c.toArray⟩,.int .i64 sh,.int .i64 pr,.int .i64 si,.string ⟨st.toArray⟩,.int .u64 sum,vt]] w fun e w' => ∃ u,e=.returned (.agg #[u,.int .i64 (s+1),.bool true])∧CT w' w.heap.size u v vt t t tt∧Below w.heap.size w w':=by
 have g2:decide (n < s)=true:=by rw [decide_eq_true_eq]; exact hg
 have g4:(k == 4)=false:=by rw [beq_eq_false_iff_ne]; exact hk4
 have g3:(k == 3)=false:=by rw [beq_eq_false_iff_ne]; exact hk3
 have g1:decide (s < n)=false:=by rw [decide_eq_false_iff_not]; omega
 have hw:IntKind.i64.wrap (s+1)=s+1:=IntWalk.i64_in _ (by omega)
 obtain⟨ca,cc,rfl,-⟩:=hv.open'
 obtain⟨ta,tc,rfl,-⟩:=hvt.open'
 have VA:=hZq (fun X (hX:Below w.heap.size w X) => hv.later hX)
 have VT:=hZq (fun X (hX:Below w.heap.size w X) => hvt.later hX)
 have b0:=bl_newZ w (.cells #[.slice ca t.length cc,.int .i64 n,.bool false] 24)
 have b1:=bl_newZ (w.alloc (.cells #[.slice ca t.length cc,.int .i64 n,.bool false] 24)) (.cells #[.int .i64 k,.int .i64 s,.bool on,.string ⟨c.toArray⟩,.int .i64 sh,.int .i64 pr,.int .i64 si,.string ⟨st.toArray⟩,.int .u64 sum,.slice ta tt.length tc] 29)
 have b2:=bl_newZ ((w.alloc (.cells #[.slice ca t.length cc,.int .i64 n,.bool false] 24)).alloc (.cells #[.int .i64 k,.int .i64 s,.bool on,.string ⟨c.toArray⟩,.int .i64 sh,.int .i64 pr,.int .i64 si,.string ⟨st.toArray⟩,.int .u64 sum,.slice ta tt.length tc] 29)) (.cells #[.slice none 0 0,.int .i64 0,.bool false] 24)
 have HB:=hZq (below2Z (below2Z b0 b1) b2)
 have CB:=newQ w (.cells #[.slice ca t.length cc,.int .i64 n,.bool false] 24)
 replace CB:=upQ CB b1
 replace CB:=upQ CB b2
 replace CB:=hZq CB
 have FB:=newQ (w.alloc (.cells #[.slice ca t.length cc,.int .i64 n,.bool false] 24)) (.cells #[.int .i64 k,.int .i64 s,.bool on,.string ⟨c.toArray⟩,.int .i64 sh,.int .i64 pr,.int .i64 si,.string ⟨st.toArray⟩,.int .u64 sum,.slice ta tt.length tc] 29)
 rw [World.size_alloc] at FB
 replace FB:=upQ FB b2
 replace FB:=hZq FB
 have RB:=newQ ((w.alloc (.cells #[.slice ca t.length cc,.int .i64 n,.bool false] 24)).alloc (.cells #[.int .i64 k,.int .i64 s,.bool on,.string ⟨c.toArray⟩,.int .i64 sh,.int .i64 pr,.int .i64 si,.string ⟨st.toArray⟩,.int .u64 sum,.slice ta tt.length tc] 29)) (.cells #[.slice none 0 0,.int .i64 0,.bool false] 24)
 rw [World.size_alloc,World.size_alloc] at RB
 replace RB:=hZq RB
 clear b0 b1 b2
 clear hv hvt
 go_enter Tryz.func19,Tryz.ntmps19
 obtain⟨⟨CBc0,CBc1,CBc2⟩,⟨CBf0,CBf1,CBf2⟩⟩:=blk3 CB.out
 go_wp2_with fail
 generalize ((w.alloc (.cells #[.slice ca t.length cc,.int .i64 n,.bool false] 24)).alloc (.cells #[.int .i64 k,.int .i64 s,.bool on,.string ⟨c.toArray⟩,.int .i64 sh,.int .i64 pr,.int .i64 si,.string ⟨st.toArray⟩,.int .u64 sum,.slice ta tt.length tc] 29)).alloc (.cells #[.slice none 0 0,.int .i64 0,.bool false] 24)=w4 at CB FB RB HB ⊢
 clear CBc0 CBc1 CBc2 CBf0 CBf1 CBf2
 refine (rclmay_eq (VA.out _ HB.out) hsT.out n false HC).mono ?_
 rintro e w5 ⟨rfl,b5⟩
 replace CB:=hZq (upQ CB.out b5)
 replace FB:=hZq (upQ FB.out b5)
 replace RB:=hZq (upQ RB.out b5)
 replace HB:=hZq (below2Z HB.out b5)
 clear b5
 obtain⟨⟨FBc0,FBc1,FBc2,FBc3,FBc4,FBc5,FBc6,FBc7,FBc8,FBc9⟩,⟨FBf0,FBf1,FBf2,FBf3,FBf4,FBf5,FBf6,FBf7,FBf8,FBf9⟩⟩:=blk10 FB.out
 go_wp2_with fail
 clear FBc0 FBc1 FBc2 FBc3 FBc4 FBc5 FBc6 FBc7 FBc8 FBc9 FBf0 FBf1 FBf2 FBf3 FBf4 FBf5 FBf6 FBf7 FBf8 FBf9
 refine (rfrmay_any (VT.out _ HB.out) hsh.out hc hst HM).mono ?_
 rintro e w6 ⟨rfl,b6⟩
 replace CB:=hZq (upQ CB.out b6)
 replace FB:=hZq (upQ FB.out b6)
 replace RB:=hZq (upQ RB.out b6)
 replace HB:=hZq (below2Z HB.out b6)
 clear b6
 obtain⟨⟨CBc0,CBc1,CBc2⟩,⟨CBf0,CBf1,CBf2⟩⟩:=blk3 CB.out
 obtain⟨⟨FBc0,FBc1,FBc2,FBc3,FBc4,FBc5,FBc6,FBc7,FBc8,FBc9⟩,⟨FBf0,FBf1,FBf2,FBf3,FBf4,FBf5,FBf6,FBf7,FBf8,FBf9⟩⟩:=blk10 FB.out
 have hRB:=(Array.getElem?_eq_some_iff.1 RB.out).1
 have hCB:=(Array.getElem?_eq_some_iff.1 CB.out).1
 have hFB:=(Array.getElem?_eq_some_iff.1 FB.out).1
 go_upto_region 4 with fail
 clear CBc0 CBc1 CBc2 CBf0 CBf1 CBf2 FBc0 FBc1 FBc2 FBc3 FBc4 FBc5 FBc6 FBc7 FBc8 FBc9 FBf0 FBf1 FBf2 FBf3 FBf4 FBf5 FBf6 FBf7 FBf8 FBf9
 have b7:=bl_newZ w6 (.cells #[.slice ca t.length cc,.int .i64 (s+1),.bool false] 24)
 have DB:=newQ w6 (.cells #[.slice ca t.length cc,.int .i64 (s+1),.bool false] 24)
 have hDB:w.heap.size≤w6.heap.size:=HB.out.size
 replace CB:=hZq (upQ CB.out b7)
 replace FB:=hZq (upQ FB.out b7)
 replace RB:=hZq (upQ RB.out b7)
 replace HB:=hZq (below2Z HB.out b7)
 clear b7
 replace DB:=hZq DB
 generalize w6.alloc (.cells #[.slice ca t.length cc,.int .i64 (s+1),.bool false] 24)=w8 at CB FB RB DB HB ⊢
 generalize w6.heap.size=BD at DB hDB hRB hCB hFB ⊢
 clear hCB hFB
 obtain⟨⟨FBc0,FBc1,FBc2,FBc3,FBc4,FBc5,FBc6,FBc7,FBc8,FBc9⟩,⟨FBf0,FBf1,FBf2,FBf3,FBf4,FBf5,FBf6,FBf7,FBf8,FBf9⟩⟩:=blk10 FB.out
 obtain⟨⟨CBc0,CBc1,CBc2⟩,⟨CBf0,CBf1,CBf2⟩⟩:=blk3 CB.out
 obtain⟨⟨DBc0,DBc1,DBc2⟩,⟨DBf0,DBf1,DBf2⟩⟩:=blk3 DB.out
 go_upto_region 9 with fail
 clear FBc0 FBc1 FBc2 FBc3 FBc4 FBc5 FBc6 FBc7 FBc8 FBc9 FBf0 FBf1 FBf2 FBf3 FBf4 FBf5 FBf6 FBf7 FBf8 FBf9 CBc0 CBc1 CBc2 CBf0 CBf1 CBf2 DBc0 DBc1 DBc2 DBf0 DBf1 DBf2
 have DBz:Hid ((w8.setCell ⟨BD,2,none⟩ (.bool true)).heap[BD]?=some (.cells #[.slice ca t.length cc,.int .i64 (s+1),.bool true] 24 (0,0))):=hZq (heap_setCell_same w8 BD 2 _ _ (.bool true) DB.out)
 have CBz:Hid ((w8.setCell ⟨BD,2,none⟩ (.bool true)).heap[w.heap.size]?=some (.cells #[.slice ca t.length cc,.int .i64 n,.bool false] 24 (0,0))):=hZq ((Below.heap_setCell _ _ _ (w.heap.size) (show ¬ w.heap.size=BD by omega)).trans CB.out)
 have FBz:Hid ((w8.setCell ⟨BD,2,none⟩ (.bool true)).heap[w.heap.size+1]?=some (.cells #[.int .i64 k,.int .i64 s,.bool on,.string ⟨c.toArray⟩,.int .i64 sh,.int .i64 pr,.int .i64 si,.string ⟨st.toArray⟩,.int .u64 sum,.slice ta tt.length tc] 29 (0,0))):=hZq ((Below.heap_setCell _ _ _ (w.heap.size+1) (show ¬ w.heap.size+1=BD by omega)).trans FB.out)
 have RBz:Hid ((w8.setCell ⟨BD,2,none⟩ (.bool true)).heap[w.heap.size+1+1]?=some (.cells #[.slice none 0 0,.int .i64 0,.bool false] 24 (0,0))):=hZq ((Below.heap_setCell _ _ _ (w.heap.size+1+1) (show ¬ w.heap.size+1+1=BD by omega)).trans RB.out)
 have HBz:Hid (Below w.heap.size w (w8.setCell ⟨BD,2,none⟩ (.bool true))):=hZq (HB.out.setCell (show w.heap.size≤BD by omega) _)
 clear HB CB FB RB DB
 generalize w8.setCell ⟨BD,2,none⟩ (.bool true)=w9 at CBz FBz RBz DBz HBz ⊢
 have CB:=CBz
 clear CBz
 have FB:=FBz
 clear FBz
 have RB:=RBz
 clear RBz
 have DB:=DBz
 clear DBz
 have HB:=HBz
 clear HBz
 obtain⟨⟨DBc0,DBc1,DBc2⟩,⟨DBf0,DBf1,DBf2⟩⟩:=blk3 DB.out
 obtain⟨⟨RBc0,RBc1,RBc2⟩,⟨RBf0,RBf1,RBf2⟩⟩:=blk3 RB.out
 go_wp2_with fail
 clear DBc0 DBc1 DBc2 DBf0 DBf1 DBf2 RBc0 RBc1 RBc2 RBf0 RBf1 RBf2
 have hz:=stN3_heap RB.out (.slice ca t.length cc) (.int .i64 (s+1)) (.bool true)
 have hle:w.heap.size≤w.heap.size+1+1:=by omega
 obtain⟨⟨z0,z1,z2⟩,-⟩:=blk3 hz
 unfold stN3 at z0 z1 z2
 refine bodyPost_ret (v:=.agg #[.slice ca t.length cc,.int .i64 (s+1),.bool true]) (by simp [results,Tryz.results19,go_sem,z0,z1,z2]) rfl ?_
 exact⟨_,rfl,.inl ⟨rfl,rfl⟩,((HB.out.setCell hle _).setCell hle _).setCell hle _⟩

theorem rclfeed_2 {w:World} {v vt:Value} {t:List Row} {s sh pr si:Int} {on:Bool} {c st:List UInt8} {sum:Nat} {tt:List Row} (hv:Tab w v t) (hvt:Tab w vt tt) (n:Int) (hsT:Hid (Short t)) (hsh:Hid (Short tt)) (hc:c.length≤4294967296) (hst:st.length≤4294967296) (HC:Hid (clMay ⟨t,n,false⟩=true)) (HM:Hid (frMay ⟨2,s,on,c,⟨sh,pr,si,st⟩,sum,tt⟩=true)) (hns:n≤s∧0≤s∧s≤1099511627776) (hsn:s≤n) {z:Nat} (HZ:Hid (diSum t=z)) {r:Bool} (g:((z:Int) != (sum:Int))=r) :
  Calls Tryz.prog 19 #[.agg #[v,.int .i64 n,.bool false],.agg #[.int .i64 2,.int .i64 s,.bool on,.string ⟨c.toArray⟩,.int .i64 sh,.int .i64 pr,.int .i64 si,.string ⟨st.toArray⟩,.int .u64 sum,vt]] w fun e w' => ∃ u,e=.returned (.agg #[u,.int .i64 (s+1),.bool r])∧CT w' w.heap.size u v vt t t tt∧Below w.heap.size w w':=by
 have g2:decide (n < s)=false:=by rw [decide_eq_false_iff_not]; omega
 have g3:(2 == 3)=false:=by decide
 have g1:decide (s < n)=false:=by rw [decide_eq_false_iff_not]; omega
 have hw:IntKind.i64.wrap (s+1)=s+1:=IntWalk.i64_in _ (by omega)
 obtain⟨ca,cc,rfl,-⟩:=hv.open'
 obtain⟨ta,tc,rfl,-⟩:=hvt.open'
 have VA:=hZq (fun X (hX:Below w.heap.size w X) => hv.later hX)
 have VT:=hZq (fun X (hX:Below w.heap.size w X) => hvt.later hX)
 have b0:=bl_newZ w (.cells #[.slice ca t.length cc,.int .i64 n,.bool false] 24)
 have b1:=bl_newZ (w.alloc (.cells #[.slice ca t.length cc,.int .i64 n,.bool false] 24)) (.cells #[.int .i64 2,.int .i64 s,.bool on,.string ⟨c.toArray⟩,.int .i64 sh,.int .i64 pr,.int .i64 si,.string ⟨st.toArray⟩,.int .u64 sum,.slice ta tt.length tc] 29)
 have b2:=bl_newZ ((w.alloc (.cells #[.slice ca t.length cc,.int .i64 n,.bool false] 24)).alloc (.cells #[.int .i64 2,.int .i64 s,.bool on,.string ⟨c.toArray⟩,.int .i64 sh,.int .i64 pr,.int .i64 si,.string ⟨st.toArray⟩,.int .u64 sum,.slice ta tt.length tc] 29)) (.cells #[.slice none 0 0,.int .i64 0,.bool false] 24)
 have HB:=hZq (below2Z (below2Z b0 b1) b2)
 have CB:=newQ w (.cells #[.slice ca t.length cc,.int .i64 n,.bool false] 24)
 replace CB:=upQ CB b1
 replace CB:=upQ CB b2
 replace CB:=hZq CB
 have FB:=newQ (w.alloc (.cells #[.slice ca t.length cc,.int .i64 n,.bool false] 24)) (.cells #[.int .i64 2,.int .i64 s,.bool on,.string ⟨c.toArray⟩,.int .i64 sh,.int .i64 pr,.int .i64 si,.string ⟨st.toArray⟩,.int .u64 sum,.slice ta tt.length tc] 29)
 rw [World.size_alloc] at FB
 replace FB:=upQ FB b2
 replace FB:=hZq FB
 have RB:=newQ ((w.alloc (.cells #[.slice ca t.length cc,.int .i64 n,.bool false] 24)).alloc (.cells #[.int .i64 2,.int .i64 s,.bool on,.string ⟨c.toArray⟩,.int .i64 sh,.int .i64 pr,.int .i64 si,.string ⟨st.toArray⟩,.int .u64 sum,.slice ta tt.length tc] 29)) (.cells #[.slice none 0 0,.int .i64 0,.bool false] 24)
 rw [World.size_alloc,World.size_alloc] at RB
 replace RB:=hZq RB
 clear b0 b1 b2
 clear hv hvt
 go_enter Tryz.func19,Tryz.ntmps19
 obtain⟨⟨CBc0,CBc1,CBc2⟩,⟨CBf0,CBf1,CBf2⟩⟩:=blk3 CB.out
 go_wp2_with fail
 generalize ((w.alloc (.cells #[.slice ca t.length cc,.int .i64 n,.bool false] 24)).alloc (.cells #[.int .i64 2,.int .i64 s,.bool on,.string ⟨c.toArray⟩,.int .i64 sh,.int .i64 pr,.int .i64 si,.string ⟨st.toArray⟩,.int .u64 sum,.slice ta tt.length tc] 29)).alloc (.cells #[.slice none 0 0,.int .i64 0,.bool false] 24)=w4 at CB FB RB HB ⊢
 clear CBc0 CBc1 CBc2 CBf0 CBf1 CBf2
 refine (rclmay_eq (VA.out _ HB.out) hsT.out n false HC).mono ?_
 rintro e w5 ⟨rfl,b5⟩
 replace CB:=hZq (upQ CB.out b5)
 replace FB:=hZq (upQ FB.out b5)
 replace RB:=hZq (upQ RB.out b5)
 replace HB:=hZq (below2Z HB.out b5)
 clear b5
 obtain⟨⟨FBc0,FBc1,FBc2,FBc3,FBc4,FBc5,FBc6,FBc7,FBc8,FBc9⟩,⟨FBf0,FBf1,FBf2,FBf3,FBf4,FBf5,FBf6,FBf7,FBf8,FBf9⟩⟩:=blk10 FB.out
 go_wp2_with fail
 clear FBc0 FBc1 FBc2 FBc3 FBc4 FBc5 FBc6 FBc7 FBc8 FBc9 FBf0 FBf1 FBf2 FBf3 FBf4 FBf5 FBf6 FBf7 FBf8 FBf9
 refine (rfrmay_any (VT.out _ HB.out) hsh.out hc hst HM).mono ?_
 rintro e w6 ⟨rfl,b6⟩
 replace CB:=hZq (upQ CB.out b6)
 replace FB:=hZq (upQ FB.out b6)
 replace RB:=hZq (upQ RB.out b6)
 replace HB:=hZq (below2Z HB.out b6)
 clear b6
 obtain⟨⟨CBc0,CBc1,CBc2⟩,⟨CBf0,CBf1,CBf2⟩⟩:=blk3 CB.out
 obtain⟨⟨FBc0,FBc1,FBc2,FBc3,FBc4,FBc5,FBc6,FBc7,FBc8,FBc9⟩,⟨FBf0,FBf1,FBf2,FBf3,FBf4,FBf5,FBf6,FBf7,FBf8,FBf9⟩⟩:=blk10 FB.out
 have hRB:=(Array.getElem?_eq_some_iff.1 RB.out).1
 have hCB:=(Array.getElem?_eq_some_iff.1 CB.out).1
 have hFB:=(Array.getElem?_eq_some_iff.1 FB.out).1
 go_upto_region 4 with fail
 clear CBc0 CBc1 CBc2 CBf0 CBf1 CBf2 FBc0 FBc1 FBc2 FBc3 FBc4 FBc5 FBc6 FBc7 FBc8 FBc9 FBf0 FBf1 FBf2 FBf3 FBf4 FBf5 FBf6 FBf7 FBf8 FBf9
 have b7:=bl_newZ w6 (.cells #[.slice ca t.length cc,.int .i64 (s+1),.bool false] 24)
 have DB:=newQ w6 (.cells #[.slice ca t.length cc,.int .i64 (s+1),.bool false] 24)
 have hDB:w.heap.size≤w6.heap.size:=HB.out.size
 replace CB:=hZq (upQ CB.out b7)
 replace FB:=hZq (upQ FB.out b7)
 replace RB:=hZq (upQ RB.out b7)
 replace HB:=hZq (below2Z HB.out b7)
 clear b7
 replace DB:=hZq DB
 generalize w6.alloc (.cells #[.slice ca t.length cc,.int .i64 (s+1),.bool false] 24)=w8 at CB FB RB DB HB ⊢
 generalize w6.heap.size=BD at DB hDB hRB hCB hFB ⊢
 clear hCB hFB
 obtain⟨⟨FBc0,FBc1,FBc2,FBc3,FBc4,FBc5,FBc6,FBc7,FBc8,FBc9⟩,⟨FBf0,FBf1,FBf2,FBf3,FBf4,FBf5,FBf6,FBf7,FBf8,FBf9⟩⟩:=blk10 FB.out
 obtain⟨⟨CBc0,CBc1,CBc2⟩,⟨CBf0,CBf1,CBf2⟩⟩:=blk3 CB.out
 obtain⟨⟨DBc0,DBc1,DBc2⟩,⟨DBf0,DBf1,DBf2⟩⟩:=blk3 DB.out
 go_upto_region 9 with fail
 clear FBc0 FBc1 FBc2 FBc3 FBc4 FBc5 FBc6 FBc7 FBc8 FBc9 FBf0 FBf1 FBf2 FBf3 FBf4 FBf5 FBf6 FBf7 FBf8 FBf9 CBc0 CBc1 CBc2 CBf0 CBf1 CBf2 DBc0 DBc1 DBc2 DBf0 DBf1 DBf2
 have DBz:Hid ((w8.setCell ⟨BD,2,none⟩ (.bool false)).heap[BD]?=some (.cells #[.slice ca t.length cc,.int .i64 (s+1),.bool false] 24 (0,0))):=hZq (heap_setCell_same w8 BD 2 _ _ (.bool false) DB.out)
 have CBz:Hid ((w8.setCell ⟨BD,2,none⟩ (.bool false)).heap[w.heap.size]?=some (.cells #[.slice ca t.length cc,.int .i64 n,.bool false] 24 (0,0))):=hZq ((Below.heap_setCell _ _ _ (w.heap.size) (show ¬ w.heap.size=BD by omega)).trans CB.out)
 have FBz:Hid ((w8.setCell ⟨BD,2,none⟩ (.bool false)).heap[w.heap.size+1]?=some (.cells #[.int .i64 2,.int .i64 s,.bool on,.string ⟨c.toArray⟩,.int .i64 sh,.int .i64 pr,.int .i64 si,.string ⟨st.toArray⟩,.int .u64 sum,.slice ta tt.length tc] 29 (0,0))):=hZq ((Below.heap_setCell _ _ _ (w.heap.size+1) (show ¬ w.heap.size+1=BD by omega)).trans FB.out)
 have RBz:Hid ((w8.setCell ⟨BD,2,none⟩ (.bool false)).heap[w.heap.size+1+1]?=some (.cells #[.slice none 0 0,.int .i64 0,.bool false] 24 (0,0))):=hZq ((Below.heap_setCell _ _ _ (w.heap.size+1+1) (show ¬ w.heap.size+1+1=BD by omega)).trans RB.out)
 have HBz:Hid (Below w.heap.size w (w8.setCell ⟨BD,2,none⟩ (.bool false))):=hZq (HB.out.setCell (show w.heap.size≤BD by omega) _)
 clear HB CB FB RB DB
 generalize w8.setCell ⟨BD,2,none⟩ (.bool false)=w9 at CBz FBz RBz DBz HBz ⊢
 have CB:=CBz
 clear CBz
 have FB:=FBz
 clear FBz
 have RB:=RBz
 clear RBz
 have DB:=DBz
 clear DBz
 have HB:=HBz
 clear HBz
 obtain⟨⟨DBc0,DBc1,DBc2⟩,⟨DBf0,DBf1,DBf2⟩⟩:=blk3 DB.out
 obtain⟨⟨FBc0,FBc1,FBc2,FBc3,FBc4,FBc5,FBc6,FBc7,FBc8,FBc9⟩,⟨FBf0,FBf1,FBf2,FBf3,FBf4,FBf5,FBf6,FBf7,FBf8,FBf9⟩⟩:=blk10 FB.out
 go_upto_region 12 with fail
 clear DBc0 DBc1 DBc2 DBf0 DBf1 DBf2 FBc0 FBc1 FBc2 FBc3 FBc4 FBc5 FBc6 FBc7 FBc8 FBc9 FBf0 FBf1 FBf2 FBf3 FBf4 FBf5 FBf6 FBf7 FBf8 FBf9
 obtain⟨BS,hBS⟩ : ∃ BS:List (Nat × List Value),BS=[(w.heap.size,[.slice ca t.length cc,.int .i64 n,.bool false]),(w.heap.size+1,[.int .i64 2,.int .i64 s,.bool on,.string ⟨c.toArray⟩,.int .i64 sh,.int .i64 pr,.int .i64 si,.string ⟨st.toArray⟩,.int .u64 sum,.slice ta tt.length tc]),(w.heap.size+1+1,[.slice none 0 0,.int .i64 0,.bool false])]:=⟨_,rfl⟩
 have D0:=hZq (show heldB w9 BS from by rw [hBS]; exact heldB_cons (cellsAt_block CB.out) (heldB_cons (cellsAt_block FB.out) (heldB_cons (cellsAt_block RB.out) (heldB_nil _))))
 have hq0:∀ X,heldB X BS→X.cell? ⟨w.heap.size,0,none⟩=some (.slice ca t.length cc):=fun X hx => heldB_get (vs:=[.slice ca t.length cc,.int .i64 n,.bool false]) hx (by rw [hBS]; simp) rfl
 have hq1:∀ X,heldB X BS→X.cell? ⟨w.heap.size,1,none⟩=some (.int .i64 n):=fun X hx => heldB_get (vs:=[.slice ca t.length cc,.int .i64 n,.bool false]) hx (by rw [hBS]; simp) rfl
 have hq2:∀ X,heldB X BS→X.cell? ⟨w.heap.size,2,none⟩=some (.bool false):=fun X hx => heldB_get (vs:=[.slice ca t.length cc,.int .i64 n,.bool false]) hx (by rw [hBS]; simp) rfl
 have hq3:∀ X,heldB X BS→X.cell? ⟨w.heap.size+1,0,none⟩=some (.int .i64 2):=fun X hx => heldB_get (vs:=[.int .i64 2,.int .i64 s,.bool on,.string ⟨c.toArray⟩,.int .i64 sh,.int .i64 pr,.int .i64 si,.string ⟨st.toArray⟩,.int .u64 sum,.slice ta tt.length tc]) hx (by rw [hBS]; simp) rfl
 have hq4:∀ X,heldB X BS→X.cell? ⟨w.heap.size+1,1,none⟩=some (.int .i64 s):=fun X hx => heldB_get (vs:=[.int .i64 2,.int .i64 s,.bool on,.string ⟨c.toArray⟩,.int .i64 sh,.int .i64 pr,.int .i64 si,.string ⟨st.toArray⟩,.int .u64 sum,.slice ta tt.length tc]) hx (by rw [hBS]; simp) rfl
 have hq5:∀ X,heldB X BS→X.cell? ⟨w.heap.size+1,2,none⟩=some (.bool on):=fun X hx => heldB_get (vs:=[.int .i64 2,.int .i64 s,.bool on,.string ⟨c.toArray⟩,.int .i64 sh,.int .i64 pr,.int .i64 si,.string ⟨st.toArray⟩,.int .u64 sum,.slice ta tt.length tc]) hx (by rw [hBS]; simp) rfl
 have hq6:∀ X,heldB X BS→X.cell? ⟨w.heap.size+1,3,none⟩=some (.string ⟨c.toArray⟩):=fun X hx => heldB_get (vs:=[.int .i64 2,.int .i64 s,.bool on,.string ⟨c.toArray⟩,.int .i64 sh,.int .i64 pr,.int .i64 si,.string ⟨st.toArray⟩,.int .u64 sum,.slice ta tt.length tc]) hx (by rw [hBS]; simp) rfl
 have hq7:∀ X,heldB X BS→X.cell? ⟨w.heap.size+1,4,none⟩=some (.int .i64 sh):=fun X hx => heldB_get (vs:=[.int .i64 2,.int .i64 s,.bool on,.string ⟨c.toArray⟩,.int .i64 sh,.int .i64 pr,.int .i64 si,.string ⟨st.toArray⟩,.int .u64 sum,.slice ta tt.length tc]) hx (by rw [hBS]; simp) rfl
 have hq8:∀ X,heldB X BS→X.cell? ⟨w.heap.size+1,5,none⟩=some (.int .i64 pr):=fun X hx => heldB_get (vs:=[.int .i64 2,.int .i64 s,.bool on,.string ⟨c.toArray⟩,.int .i64 sh,.int .i64 pr,.int .i64 si,.string ⟨st.toArray⟩,.int .u64 sum,.slice ta tt.length tc]) hx (by rw [hBS]; simp) rfl
 have hq9:∀ X,heldB X BS→X.cell? ⟨w.heap.size+1,6,none⟩=some (.int .i64 si):=fun X hx => heldB_get (vs:=[.int .i64 2,.int .i64 s,.bool on,.string ⟨c.toArray⟩,.int .i64 sh,.int .i64 pr,.int .i64 si,.string ⟨st.toArray⟩,.int .u64 sum,.slice ta tt.length tc]) hx (by rw [hBS]; simp) rfl
 have hq10:∀ X,heldB X BS→X.cell? ⟨w.heap.size+1,7,none⟩=some (.string ⟨st.toArray⟩):=fun X hx => heldB_get (vs:=[.int .i64 2,.int .i64 s,.bool on,.string ⟨c.toArray⟩,.int .i64 sh,.int .i64 pr,.int .i64 si,.string ⟨st.toArray⟩,.int .u64 sum,.slice ta tt.length tc]) hx (by rw [hBS]; simp) rfl
 have hq11:∀ X,heldB X BS→X.cell? ⟨w.heap.size+1,8,none⟩=some (.int .u64 sum):=fun X hx => heldB_get (vs:=[.int .i64 2,.int .i64 s,.bool on,.string ⟨c.toArray⟩,.int .i64 sh,.int .i64 pr,.int .i64 si,.string ⟨st.toArray⟩,.int .u64 sum,.slice ta tt.length tc]) hx (by rw [hBS]; simp) rfl
 have hq12:∀ X,heldB X BS→X.cell? ⟨w.heap.size+1,9,none⟩=some (.slice ta tt.length tc):=fun X hx => heldB_get (vs:=[.int .i64 2,.int .i64 s,.bool on,.string ⟨c.toArray⟩,.int .i64 sh,.int .i64 pr,.int .i64 si,.string ⟨st.toArray⟩,.int .u64 sum,.slice ta tt.length tc]) hx (by rw [hBS]; simp) rfl
 have hq13:∀ X,heldB X BS→X.cell? ⟨w.heap.size+1+1,0,none⟩=some (.slice none 0 0):=fun X hx => heldB_get (vs:=[.slice none 0 0,.int .i64 0,.bool false]) hx (by rw [hBS]; simp) rfl
 have hq14:∀ X,heldB X BS→X.cell? ⟨w.heap.size+1+1,1,none⟩=some (.int .i64 0):=fun X hx => heldB_get (vs:=[.slice none 0 0,.int .i64 0,.bool false]) hx (by rw [hBS]; simp) rfl
 have hq15:∀ X,heldB X BS→X.cell? ⟨w.heap.size+1+1,2,none⟩=some (.bool false):=fun X hx => heldB_get (vs:=[.slice none 0 0,.int .i64 0,.bool false]) hx (by rw [hBS]; simp) rfl
 have hBN:Hid (∀ p ∈ BS,¬ p.1=BD):=hZq (by rw [hBS]; intro p hp; simp only [List.mem_cons,List.not_mem_nil,or_false] at hp; rcases hp with rfl | rfl | rfl <;> simp only <;> omega)
 clear hBS
 have K0:Hid (Below w9.heap.size w9 w9.drew):=hZq (Below.refl _ _).drew
 refine wp_region_held_drew (S:=(fun X => heldB X BS)) (by kernel_rfl) ?_ (fun hHeld => ?_)
 ·exact heldB_up K0.out D0.out
 generalize w9.drew=z0 at K0 hHeld ⊢
 refine wpAnyH_take (i:=0) (oi:=⟨some 60,.fieldAddr 24 (.tmp 2) 0,0,"ref.go:36",#[],none⟩) (v:=?_) rfl (by as_aux_lemma => kernel_rfl) (by as_aux_lemma => kernel_rfl) (by as_aux_lemma => kernel_rfl) (fun _ _ _ h => h) (Or.inl ⟨by rfl,?_⟩) (by assumption) ?_
 rotate_left
 ·intro w' hSw
  try dsimp only at hSw
  go_simp
  try with_reducible rfl
 try simp only [Act.put,List.setIfInBounds_toArray,List.set_cons_zero,List.set_cons_succ]
 refine wpAnyH_take (i:=1) (oi:=⟨some 61,.load 22 (.tmp 60),22,"ref.go:36",#[⟨0,.data⟩],none⟩) (v:=?_) rfl (by as_aux_lemma => kernel_rfl) (by as_aux_lemma => kernel_rfl) (by as_aux_lemma => kernel_rfl) (fun _ _ _ h => h) (Or.inl ⟨by rfl,?_⟩) (by assumption) ?_
 rotate_left
 ·intro w' hSw
  try dsimp only at hSw
  go_simp
  try with_reducible rfl
 try simp only [Act.put,List.setIfInBounds_toArray,List.set_cons_zero,List.set_cons_succ]
 refine wpAnyH_take (i:=3) (oi:=⟨some 63,.fieldAddr 29 (.tmp 3) 5,0,"ref.go:36",#[],none⟩) (v:=?_) rfl (by as_aux_lemma => kernel_rfl) (by as_aux_lemma => kernel_rfl) (by as_aux_lemma => kernel_rfl) (fun _ _ _ h => h) (Or.inl ⟨by rfl,?_⟩) (by assumption) ?_
 rotate_left
 ·intro w' hSw
  try dsimp only at hSw
  go_simp
  try with_reducible rfl
 try simp only [Act.put,List.setIfInBounds_toArray,List.set_cons_zero,List.set_cons_succ]
 refine wpAnyH_take (i:=4) (oi:=⟨some 64,.load 27 (.tmp 63),27,"ref.go:36",#[⟨3,.data⟩],none⟩) (v:=?_) rfl (by as_aux_lemma => kernel_rfl) (by as_aux_lemma => kernel_rfl) (by as_aux_lemma => kernel_rfl) (fun _ _ _ h => h) (Or.inl ⟨by rfl,?_⟩) (by assumption) ?_
 rotate_left
 ·intro w' hSw
  try dsimp only at hSw
  go_simp
  try with_reducible rfl
 try simp only [Act.put,List.setIfInBounds_toArray,List.set_cons_zero,List.set_cons_succ]
 refine wpAnyH_ready (rs:=[2]) (by as_aux_lemma => kernel_rfl) (by simp) ?_
 refine AllReadyH.cons (o:=⟨some 62,.call { callee:=.value (.func 56),args:=#[.tmp 61],argTypes:=#[22] },27,"ref.go:36",#[⟨1,.data⟩],none⟩) rfl (fun Kx hK => ?_) AllReadyH.nil
 go_simp
 refine (rsum_eqC (VA.out _ (below2Z HB.out (K0.out))) hsT.out HZ).mono ?_
 rintro e z1001 ⟨rfl,bz1001⟩
 have K1001:=hZq (below2Z K0.out bz1001)
 have D1001:=hZq (heldB_up K1001.out D0.out)
 clear bz1001
 go_wp2_with fail
 refine hK.out _ _ ?_ (fun hHeld2 => ?_)
 ·exact D1001.out
 clear hK Kx hHeld
 have hHeld:=hHeld2
 clear hHeld2
 try simp only [Act.put,List.setIfInBounds_toArray,List.set_cons_zero,List.set_cons_succ]
 refine wpAnyH_take (i:=5) (oi:=⟨some 65,.binOp .neq 27 (.tmp 62) (.tmp 64) 27,4,"ref.go:36",#[⟨2,.data⟩,⟨4,.data⟩],none⟩) (v:=?_) rfl (by as_aux_lemma => kernel_rfl) (by as_aux_lemma => kernel_rfl) (by as_aux_lemma => kernel_rfl) (fun _ _ _ h => h) (Or.inl ⟨by rfl,?_⟩) (by assumption) ?_
 rotate_left
 ·intro w' hSw
  try dsimp only at hSw
  go_simp
  try with_reducible rfl
 try simp only [Act.put,List.setIfInBounds_toArray,List.set_cons_zero,List.set_cons_succ]
 refine wpAnyH_take (i:=6) (oi:=⟨some 66,.fieldAddr 24 (.tmp 5) 2,0,"ref.go:36",#[⟨0,.phase⟩,⟨1,.phase⟩,⟨2,.phase⟩,⟨3,.phase⟩,⟨4,.phase⟩,⟨5,.phase⟩],none⟩) (v:=?_) rfl (by as_aux_lemma => kernel_rfl) (by as_aux_lemma => kernel_rfl) (by as_aux_lemma => kernel_rfl) (fun _ _ _ h => h) (Or.inl ⟨by rfl,?_⟩) (by assumption) ?_
 rotate_left
 ·intro w' hSw
  try dsimp only at hSw
  go_simp
  try with_reducible rfl
 try simp only [Act.put,List.setIfInBounds_toArray,List.set_cons_zero,List.set_cons_succ]
 obtain⟨⟨q0,q1,q2⟩,⟨g0,g1,g2⟩⟩:=blk3 (upQ DB.out (K1001.out))
 refine wpAnyH_ready (rs:=[7]) (by as_aux_lemma => kernel_rfl) (by simp) ?_
 refine AllReadyH.cons (o:=⟨none,.store 4 (.tmp 66) (.tmp 65),0,"ref.go:36",#[⟨6,.data⟩,⟨5,.data⟩,⟨2,.chain⟩,⟨0,.phase⟩,⟨1,.phase⟩,⟨2,.phase⟩,⟨3,.phase⟩,⟨4,.phase⟩,⟨5,.phase⟩],none⟩) rfl (fun Kx hK => ?_) AllReadyH.nil
 go_simp
 clear q0 q1 q2 g0 g1 g2
 have DBz:Hid ((z1001.setCell ⟨BD,2,none⟩ (.bool r)).heap[BD]?=some (.cells #[.slice ca t.length cc,.int .i64 (s+1),.bool r] 24 (0,0))):=hZq (heap_setCell_same z1001 BD 2 _ _ (.bool r) (upQ DB.out (K1001.out)))
 have CBz:Hid ((z1001.setCell ⟨BD,2,none⟩ (.bool r)).heap[w.heap.size]?=some (.cells #[.slice ca t.length cc,.int .i64 n,.bool false] 24 (0,0))):=hZq ((Below.heap_setCell _ _ _ (w.heap.size) (show ¬ w.heap.size=BD by omega)).trans (upQ CB.out (K1001.out)))
 have FBz:Hid ((z1001.setCell ⟨BD,2,none⟩ (.bool r)).heap[w.heap.size+1]?=some (.cells #[.int .i64 2,.int .i64 s,.bool on,.string ⟨c.toArray⟩,.int .i64 sh,.int .i64 pr,.int .i64 si,.string ⟨st.toArray⟩,.int .u64 sum,.slice ta tt.length tc] 29 (0,0))):=hZq ((Below.heap_setCell _ _ _ (w.heap.size+1) (show ¬ w.heap.size+1=BD by omega)).trans (upQ FB.out (K1001.out)))
 have RBz:Hid ((z1001.setCell ⟨BD,2,none⟩ (.bool r)).heap[w.heap.size+1+1]?=some (.cells #[.slice none 0 0,.int .i64 0,.bool false] 24 (0,0))):=hZq ((Below.heap_setCell _ _ _ (w.heap.size+1+1) (show ¬ w.heap.size+1+1=BD by omega)).trans (upQ RB.out (K1001.out)))
 have HBz:Hid (Below w.heap.size w (z1001.setCell ⟨BD,2,none⟩ (.bool r))):=hZq ((below2Z HB.out (K1001.out)).setCell (show w.heap.size≤BD by omega) _)
 have HLD:Hid (heldB (z1001.setCell ⟨BD,2,none⟩ (.bool r)) BS):=hZq (heldB_farF (heldB_up (K1001.out) D0.out) (fun k hk => Below.heap_setCell _ _ _ k hk) hBN.out)
 refine hK.out _ _ ?_ (fun hHeld2 => ?_)
 ·exact HLD.out
 clear hK Kx hHeld HLD
 have hHeld:=hHeld2
 clear hHeld2
 generalize z1001.setCell ⟨BD,2,none⟩ (.bool r)=zs at DBz CBz FBz RBz HBz hHeld ⊢
 refine wpAnyH_done (by kernel_rfl) ?_ _
 clear CB FB RB HB DB
 have DB:=DBz
 have RB:=RBz
 have HB:=HBz
 clear DBz RBz HBz
 obtain⟨⟨DBc0,DBc1,DBc2⟩,⟨DBf0,DBf1,DBf2⟩⟩:=blk3 DB.out
 obtain⟨⟨RBc0,RBc1,RBc2⟩,⟨RBf0,RBf1,RBf2⟩⟩:=blk3 RB.out
 go_wp2_with fail
 clear DBc0 DBc1 DBc2 DBf0 DBf1 DBf2 RBc0 RBc1 RBc2 RBf0 RBf1 RBf2
 have hz:=stN3_heap RB.out (.slice ca t.length cc) (.int .i64 (s+1)) (.bool r)
 have hle:w.heap.size≤w.heap.size+1+1:=by omega
 obtain⟨⟨z0,z1,z2⟩,-⟩:=blk3 hz
 unfold stN3 at z0 z1 z2
 refine bodyPost_ret (v:=.agg #[.slice ca t.length cc,.int .i64 (s+1),.bool r]) (by simp [results,Tryz.results19,go_sem,z0,z1,z2]) rfl ?_
 exact⟨_,rfl,.inl ⟨rfl,rfl⟩,((HB.out.setCell hle _).setCell hle _).setCell hle _⟩

theorem rclfeed_1n {w:World} {v vt:Value} {t:List Row} {s sh pr si:Int} {on:Bool} {c st:List UInt8} {sum:Nat} {tt:List Row} (hv:Tab w v t) (hvt:Tab w vt tt) (n:Int) (hsT:Hid (Short t)) (hsh:Hid (Short tt)) (hc:c.length≤4294967296) (hst:st.length≤4294967296) (HC:Hid (clMay ⟨t,n,false⟩=true)) (HM:Hid (frMay ⟨1,s,on,c,⟨sh,pr,si,st⟩,sum,tt⟩=true)) (hns:n≤s∧0≤s∧s≤1099511627776) (hsn:s≤n) (hl:t.length≤1000) (hset:Short (diSet t ⟨c,on,⟨sh,pr,si,st⟩⟩)) (HS:Hid (diMay (diSet t ⟨c,on,⟨sh,pr,si,st⟩⟩)=false)) :
  Calls Tryz.prog 19 #[.agg #[v,.int .i64 n,.bool false],.agg #[.int .i64 1,.int .i64 s,.bool on,.string ⟨c.toArray⟩,.int .i64 sh,.int .i64 pr,.int .i64 si,.string ⟨st.toArray⟩,.int .u64 sum,vt]] w fun e w' => ∃ u,e=.returned (.agg #[u,.int .i64 (s+1),.bool true])∧CT w' w.heap.size u v vt t t tt∧Below w.heap.size w w':=by
 have g2:decide (n < s)=false:=by rw [decide_eq_false_iff_not]; omega
 have g3:(1 == 3)=false:=by decide
 have g1:decide (s < n)=false:=by rw [decide_eq_false_iff_not]; omega
 have hw:IntKind.i64.wrap (s+1)=s+1:=IntWalk.i64_in _ (by omega)
 obtain⟨ca,cc,rfl,-⟩:=hv.open'
 obtain⟨ta,tc,rfl,-⟩:=hvt.open'
 have VA:=hZq (fun X (hX:Below w.heap.size w X) => hv.later hX)
 have VT:=hZq (fun X (hX:Below w.heap.size w X) => hvt.later hX)
 have b0:=bl_newZ w (.cells #[.slice ca t.length cc,.int .i64 n,.bool false] 24)
 have b1:=bl_newZ (w.alloc (.cells #[.slice ca t.length cc,.int .i64 n,.bool false] 24)) (.cells #[.int .i64 1,.int .i64 s,.bool on,.string ⟨c.toArray⟩,.int .i64 sh,.int .i64 pr,.int .i64 si,.string ⟨st.toArray⟩,.int .u64 sum,.slice ta tt.length tc] 29)
 have b2:=bl_newZ ((w.alloc (.cells #[.slice ca t.length cc,.int .i64 n,.bool false] 24)).alloc (.cells #[.int .i64 1,.int .i64 s,.bool on,.string ⟨c.toArray⟩,.int .i64 sh,.int .i64 pr,.int .i64 si,.string ⟨st.toArray⟩,.int .u64 sum,.slice ta tt.length tc] 29)) (.cells #[.slice none 0 0,.int .i64 0,.bool false] 24)
 have HB:=hZq (below2Z (below2Z b0 b1) b2)
 have CB:=newQ w (.cells #[.slice ca t.length cc,.int .i64 n,.bool false] 24)
 replace CB:=upQ CB b1
 replace CB:=upQ CB b2
 replace CB:=hZq CB
 have FB:=newQ (w.alloc (.cells #[.slice ca t.length cc,.int .i64 n,.bool false] 24)) (.cells #[.int .i64 1,.int .i64 s,.bool on,.string ⟨c.toArray⟩,.int .i64 sh,.int .i64 pr,.int .i64 si,.string ⟨st.toArray⟩,.int .u64 sum,.slice ta tt.length tc] 29)
 rw [World.size_alloc] at FB
 replace FB:=upQ FB b2
 replace FB:=hZq FB
 have RB:=newQ ((w.alloc (.cells #[.slice ca t.length cc,.int .i64 n,.bool false] 24)).alloc (.cells #[.int .i64 1,.int .i64 s,.bool on,.string ⟨c.toArray⟩,.int .i64 sh,.int .i64 pr,.int .i64 si,.string ⟨st.toArray⟩,.int .u64 sum,.slice ta tt.length tc] 29)) (.cells #[.slice none 0 0,.int .i64 0,.bool false] 24)
 rw [World.size_alloc,World.size_alloc] at RB
 replace RB:=hZq RB
 clear b0 b1 b2
 clear hv hvt
 go_enter Tryz.func19,Tryz.ntmps19
 obtain⟨⟨CBc0,CBc1,CBc2⟩,⟨CBf0,CBf1,CBf2⟩⟩:=blk3 CB.out
 go_wp2_with fail
 generalize ((w.alloc (.cells #[.slice ca t.length cc,.int .i64 n,.bool false] 24)).alloc (.cells #[.int .i64 1,.int .i64 s,.bool on,.string ⟨c.toArray⟩,.int .i64 sh,.int .i64 pr,.int .i64 si,.string ⟨st.toArray⟩,.int .u64 sum,.slice ta tt.length tc] 29)).alloc (.cells #[.slice none 0 0,.int .i64 0,.bool false] 24)=w4 at CB FB RB HB ⊢
 clear CBc0 CBc1 CBc2 CBf0 CBf1 CBf2
 refine (rclmay_eq (VA.out _ HB.out) hsT.out n false HC).mono ?_
 rintro e w5 ⟨rfl,b5⟩
 replace CB:=hZq (upQ CB.out b5)
 replace FB:=hZq (upQ FB.out b5)
 replace RB:=hZq (upQ RB.out b5)
 replace HB:=hZq (below2Z HB.out b5)
 clear b5
 obtain⟨⟨FBc0,FBc1,FBc2,FBc3,FBc4,FBc5,FBc6,FBc7,FBc8,FBc9⟩,⟨FBf0,FBf1,FBf2,FBf3,FBf4,FBf5,FBf6,FBf7,FBf8,FBf9⟩⟩:=blk10 FB.out
 go_wp2_with fail
 clear FBc0 FBc1 FBc2 FBc3 FBc4 FBc5 FBc6 FBc7 FBc8 FBc9 FBf0 FBf1 FBf2 FBf3 FBf4 FBf5 FBf6 FBf7 FBf8 FBf9
 refine (rfrmay_any (VT.out _ HB.out) hsh.out hc hst HM).mono ?_
 rintro e w6 ⟨rfl,b6⟩
 replace CB:=hZq (upQ CB.out b6)
 replace FB:=hZq (upQ FB.out b6)
 replace RB:=hZq (upQ RB.out b6)
 replace HB:=hZq (below2Z HB.out b6)
 clear b6
 obtain⟨⟨CBc0,CBc1,CBc2⟩,⟨CBf0,CBf1,CBf2⟩⟩:=blk3 CB.out
 obtain⟨⟨FBc0,FBc1,FBc2,FBc3,FBc4,FBc5,FBc6,FBc7,FBc8,FBc9⟩,⟨FBf0,FBf1,FBf2,FBf3,FBf4,FBf5,FBf6,FBf7,FBf8,FBf9⟩⟩:=blk10 FB.out
 have hRB:=(Array.getElem?_eq_some_iff.1 RB.out).1
 have hCB:=(Array.getElem?_eq_some_iff.1 CB.out).1
 have hFB:=(Array.getElem?_eq_some_iff.1 FB.out).1
 go_upto_region 4 with fail
 clear CBc0 CBc1 CBc2 CBf0 CBf1 CBf2 FBc0 FBc1 FBc2 FBc3 FBc4 FBc5 FBc6 FBc7 FBc8 FBc9 FBf0 FBf1 FBf2 FBf3 FBf4 FBf5 FBf6 FBf7 FBf8 FBf9
 have b7:=bl_newZ w6 (.cells #[.slice ca t.length cc,.int .i64 (s+1),.bool false] 24)
 have DB:=newQ w6 (.cells #[.slice ca t.length cc,.int .i64 (s+1),.bool false] 24)
 have hDB:w.heap.size≤w6.heap.size:=HB.out.size
 replace CB:=hZq (upQ CB.out b7)
 replace FB:=hZq (upQ FB.out b7)
 replace RB:=hZq (upQ RB.out b7)
 replace HB:=hZq (below2Z HB.out b7)
 clear b7
 replace DB:=hZq DB
 generalize w6.alloc (.cells #[.slice ca t.length cc,.int .i64 (s+1),.bool false] 24)=w8 at CB FB RB DB HB ⊢
 generalize w6.heap.size=BD at DB hDB hRB hCB hFB ⊢
 clear hCB hFB
 obtain⟨⟨FBc0,FBc1,FBc2,FBc3,FBc4,FBc5,FBc6,FBc7,FBc8,FBc9⟩,⟨FBf0,FBf1,FBf2,FBf3,FBf4,FBf5,FBf6,FBf7,FBf8,FBf9⟩⟩:=blk10 FB.out
 obtain⟨⟨CBc0,CBc1,CBc2⟩,⟨CBf0,CBf1,CBf2⟩⟩:=blk3 CB.out
 obtain⟨⟨DBc0,DBc1,DBc2⟩,⟨DBf0,DBf1,DBf2⟩⟩:=blk3 DB.out
 go_upto_region 9 with fail
 clear FBc0 FBc1 FBc2 FBc3 FBc4 FBc5 FBc6 FBc7 FBc8 FBc9 FBf0 FBf1 FBf2 FBf3 FBf4 FBf5 FBf6 FBf7 FBf8 FBf9 CBc0 CBc1 CBc2 CBf0 CBf1 CBf2 DBc0 DBc1 DBc2 DBf0 DBf1 DBf2
 have DBz:Hid ((w8.setCell ⟨BD,2,none⟩ (.bool false)).heap[BD]?=some (.cells #[.slice ca t.length cc,.int .i64 (s+1),.bool false] 24 (0,0))):=hZq (heap_setCell_same w8 BD 2 _ _ (.bool false) DB.out)
 have CBz:Hid ((w8.setCell ⟨BD,2,none⟩ (.bool false)).heap[w.heap.size]?=some (.cells #[.slice ca t.length cc,.int .i64 n,.bool false] 24 (0,0))):=hZq ((Below.heap_setCell _ _ _ (w.heap.size) (show ¬ w.heap.size=BD by omega)).trans CB.out)
 have FBz:Hid ((w8.setCell ⟨BD,2,none⟩ (.bool false)).heap[w.heap.size+1]?=some (.cells #[.int .i64 1,.int .i64 s,.bool on,.string ⟨c.toArray⟩,.int .i64 sh,.int .i64 pr,.int .i64 si,.string ⟨st.toArray⟩,.int .u64 sum,.slice ta tt.length tc] 29 (0,0))):=hZq ((Below.heap_setCell _ _ _ (w.heap.size+1) (show ¬ w.heap.size+1=BD by omega)).trans FB.out)
 have RBz:Hid ((w8.setCell ⟨BD,2,none⟩ (.bool false)).heap[w.heap.size+1+1]?=some (.cells #[.slice none 0 0,.int .i64 0,.bool false] 24 (0,0))):=hZq ((Below.heap_setCell _ _ _ (w.heap.size+1+1) (show ¬ w.heap.size+1+1=BD by omega)).trans RB.out)
 have HBz:Hid (Below w.heap.size w (w8.setCell ⟨BD,2,none⟩ (.bool false))):=hZq (HB.out.setCell (show w.heap.size≤BD by omega) _)
 clear HB CB FB RB DB
 generalize w8.setCell ⟨BD,2,none⟩ (.bool false)=w9 at CBz FBz RBz DBz HBz ⊢
 have CB:=CBz
 clear CBz
 have FB:=FBz
 clear FBz
 have RB:=RBz
 clear RBz
 have DB:=DBz
 clear DBz
 have HB:=HBz
 clear HBz
 obtain⟨⟨DBc0,DBc1,DBc2⟩,⟨DBf0,DBf1,DBf2⟩⟩:=blk3 DB.out
 obtain⟨⟨FBc0,FBc1,FBc2,FBc3,FBc4,FBc5,FBc6,FBc7,FBc8,FBc9⟩,⟨FBf0,FBf1,FBf2,FBf3,FBf4,FBf5,FBf6,FBf7,FBf8,FBf9⟩⟩:=blk10 FB.out
 obtain⟨⟨CBc0,CBc1,CBc2⟩,⟨CBf0,CBf1,CBf2⟩⟩:=blk3 CB.out
 go_wp2_with fail
 clear DBc0 DBc1 DBc2 DBf0 DBf1 DBf2 FBc0 FBc1 FBc2 FBc3 FBc4 FBc5 FBc6 FBc7 FBc8 FBc9 FBf0 FBf1 FBf2 FBf3 FBf4 FBf5 FBf6 FBf7 FBf8 FBf9 CBc0 CBc1 CBc2 CBf0 CBf1 CBf2
 have hDD:=(Array.getElem?_eq_some_iff.1 DB.out).1
 refine (rset_eqC (VA.out _ HB.out) hl c st on sh pr si).mono ?_
 rintro e w10 ⟨u10,rfl,hu10,b10⟩
 replace CB:=hZq (upQ CB.out b10)
 replace FB:=hZq (upQ FB.out b10)
 replace RB:=hZq (upQ RB.out b10)
 replace DB:=hZq (upQ DB.out b10)
 replace HB:=hZq (below2Z HB.out b10)
 obtain⟨ua,uc,rfl,-⟩:=Tab.open' (OwnR.tab hu10)
 have U:=hZq (OwnR.mono hu10 (show BD+1≤_ from hDD))
 clear hu10 hDD
 clear b10
 go_wp2_with fail
 refine (rdimay_eq (OwnR.tab U.out) hset HS).mono ?_
 rintro e w11 ⟨rfl,b11⟩
 replace CB:=hZq (upQ CB.out b11)
 replace FB:=hZq (upQ FB.out b11)
 replace RB:=hZq (upQ RB.out b11)
 replace DB:=hZq (upQ DB.out b11)
 replace U:=hZq (OwnR.later U.out b11)
 replace HB:=hZq (below2Z HB.out b11)
 clear b11
 obtain⟨⟨DBc0,DBc1,DBc2⟩,⟨DBf0,DBf1,DBf2⟩⟩:=blk3 DB.out
 go_upto_region 17 with fail
 clear DBc0 DBc1 DBc2 DBf0 DBf1 DBf2
 have DBz:Hid ((w11.setCell ⟨BD,2,none⟩ (.bool true)).heap[BD]?=some (.cells #[.slice ca t.length cc,.int .i64 (s+1),.bool true] 24 (0,0))):=hZq (heap_setCell_same w11 BD 2 _ _ (.bool true) DB.out)
 have CBz:Hid ((w11.setCell ⟨BD,2,none⟩ (.bool true)).heap[w.heap.size]?=some (.cells #[.slice ca t.length cc,.int .i64 n,.bool false] 24 (0,0))):=hZq ((Below.heap_setCell _ _ _ (w.heap.size) (show ¬ w.heap.size=BD by omega)).trans CB.out)
 have FBz:Hid ((w11.setCell ⟨BD,2,none⟩ (.bool true)).heap[w.heap.size+1]?=some (.cells #[.int .i64 1,.int .i64 s,.bool on,.string ⟨c.toArray⟩,.int .i64 sh,.int .i64 pr,.int .i64 si,.string ⟨st.toArray⟩,.int .u64 sum,.slice ta tt.length tc] 29 (0,0))):=hZq ((Below.heap_setCell _ _ _ (w.heap.size+1) (show ¬ w.heap.size+1=BD by omega)).trans FB.out)
 have RBz:Hid ((w11.setCell ⟨BD,2,none⟩ (.bool true)).heap[w.heap.size+1+1]?=some (.cells #[.slice none 0 0,.int .i64 0,.bool false] 24 (0,0))):=hZq ((Below.heap_setCell _ _ _ (w.heap.size+1+1) (show ¬ w.heap.size+1+1=BD by omega)).trans RB.out)
 have HBz:Hid (Below w.heap.size w (w11.setCell ⟨BD,2,none⟩ (.bool true))):=hZq (HB.out.setCell (show w.heap.size≤BD by omega) _)
 have Uz:=hZq (OwnR.setCell (a:=⟨BD,2,none⟩) U.out (show BD < BD+1 by omega) (.bool true))
 clear HB CB FB RB DB U
 generalize w11.setCell ⟨BD,2,none⟩ (.bool true)=w12 at CBz FBz RBz DBz Uz HBz ⊢
 have CB:=CBz
 clear CBz
 have FB:=FBz
 clear FBz
 have RB:=RBz
 clear RBz
 have DB:=DBz
 clear DBz
 have U:=Uz
 clear Uz
 have HB:=HBz
 clear HBz
 obtain⟨⟨DBc0,DBc1,DBc2⟩,⟨DBf0,DBf1,DBf2⟩⟩:=blk3 DB.out
 obtain⟨⟨RBc0,RBc1,RBc2⟩,⟨RBf0,RBf1,RBf2⟩⟩:=blk3 RB.out
 go_wp2_with fail
 clear DBc0 DBc1 DBc2 DBf0 DBf1 DBf2 RBc0 RBc1 RBc2 RBf0 RBf1 RBf2
 have hz:=stN3_heap RB.out (.slice ca t.length cc) (.int .i64 (s+1)) (.bool true)
 have hle:w.heap.size≤w.heap.size+1+1:=by omega
 obtain⟨⟨z0,z1,z2⟩,-⟩:=blk3 hz
 unfold stN3 at z0 z1 z2
 refine bodyPost_ret (v:=.agg #[.slice ca t.length cc,.int .i64 (s+1),.bool true]) (by simp [results,Tryz.results19,go_sem,z0,z1,z2]) rfl ?_
 exact⟨_,rfl,.inl ⟨rfl,rfl⟩,((HB.out.setCell hle _).setCell hle _).setCell hle _⟩

theorem rclfeed_1y {w:World} {v vt:Value} {t:List Row} {s sh pr si:Int} {on:Bool} {c st:List UInt8} {sum:Nat} {tt:List Row} (hv:Tab w v t) (hvt:Tab w vt tt) (n:Int) (hsT:Hid (Short t)) (hsh:Hid (Short tt)) (hc:c.length≤4294967296) (hst:st.length≤4294967296) (HC:Hid (clMay ⟨t,n,false⟩=true)) (HM:Hid (frMay ⟨1,s,on,c,⟨sh,pr,si,st⟩,sum,tt⟩=true)) (hns:n≤s∧0≤s∧s≤1099511627776) (hsn:s≤n) (hl:t.length≤1000) (hset:Short (diSet t ⟨c,on,⟨sh,pr,si,st⟩⟩)) (HS:Hid (diMay (diSet t ⟨c,on,⟨sh,pr,si,st⟩⟩)=true)) :
  Calls Tryz.prog 19 #[.agg #[v,.int .i64 n,.bool false],.agg #[.int .i64 1,.int .i64 s,.bool on,.string ⟨c.toArray⟩,.int .i64 sh,.int .i64 pr,.int .i64 si,.string ⟨st.toArray⟩,.int .u64 sum,vt]] w fun e w' => ∃ u,e=.returned (.agg #[u,.int .i64 (s+1),.bool false])∧CT w' w.heap.size u v vt (diSet t ⟨c,on,⟨sh,pr,si,st⟩⟩) t tt∧Below w.heap.size w w':=by
 have g2:decide (n < s)=false:=by rw [decide_eq_false_iff_not]; omega
 have g3:(1 == 3)=false:=by decide
 have g1:decide (s < n)=false:=by rw [decide_eq_false_iff_not]; omega
 have hw:IntKind.i64.wrap (s+1)=s+1:=IntWalk.i64_in _ (by omega)
 obtain⟨ca,cc,rfl,-⟩:=hv.open'
 obtain⟨ta,tc,rfl,-⟩:=hvt.open'
 have VA:=hZq (fun X (hX:Below w.heap.size w X) => hv.later hX)
 have VT:=hZq (fun X (hX:Below w.heap.size w X) => hvt.later hX)
 have b0:=bl_newZ w (.cells #[.slice ca t.length cc,.int .i64 n,.bool false] 24)
 have b1:=bl_newZ (w.alloc (.cells #[.slice ca t.length cc,.int .i64 n,.bool false] 24)) (.cells #[.int .i64 1,.int .i64 s,.bool on,.string ⟨c.toArray⟩,.int .i64 sh,.int .i64 pr,.int .i64 si,.string ⟨st.toArray⟩,.int .u64 sum,.slice ta tt.length tc] 29)
 have b2:=bl_newZ ((w.alloc (.cells #[.slice ca t.length cc,.int .i64 n,.bool false] 24)).alloc (.cells #[.int .i64 1,.int .i64 s,.bool on,.string ⟨c.toArray⟩,.int .i64 sh,.int .i64 pr,.int .i64 si,.string ⟨st.toArray⟩,.int .u64 sum,.slice ta tt.length tc] 29)) (.cells #[.slice none 0 0,.int .i64 0,.bool false] 24)
 have HB:=hZq (below2Z (below2Z b0 b1) b2)
 have CB:=newQ w (.cells #[.slice ca t.length cc,.int .i64 n,.bool false] 24)
 replace CB:=upQ CB b1
 replace CB:=upQ CB b2
 replace CB:=hZq CB
 have FB:=newQ (w.alloc (.cells #[.slice ca t.length cc,.int .i64 n,.bool false] 24)) (.cells #[.int .i64 1,.int .i64 s,.bool on,.string ⟨c.toArray⟩,.int .i64 sh,.int .i64 pr,.int .i64 si,.string ⟨st.toArray⟩,.int .u64 sum,.slice ta tt.length tc] 29)
 rw [World.size_alloc] at FB
 replace FB:=upQ FB b2
 replace FB:=hZq FB
 have RB:=newQ ((w.alloc (.cells #[.slice ca t.length cc,.int .i64 n,.bool false] 24)).alloc (.cells #[.int .i64 1,.int .i64 s,.bool on,.string ⟨c.toArray⟩,.int .i64 sh,.int .i64 pr,.int .i64 si,.string ⟨st.toArray⟩,.int .u64 sum,.slice ta tt.length tc] 29)) (.cells #[.slice none 0 0,.int .i64 0,.bool false] 24)
 rw [World.size_alloc,World.size_alloc] at RB
 replace RB:=hZq RB
 clear b0 b1 b2
 clear hv hvt
 go_enter Tryz.func19,Tryz.ntmps19
 obtain⟨⟨CBc0,CBc1,CBc2⟩,⟨CBf0,CBf1,CBf2⟩⟩:=blk3 CB.out
 go_wp2_with fail
 generalize ((w.alloc (.cells #[.slice ca t.length cc,.int .i64 n,.bool false] 24)).alloc (.cells #[.int .i64 1,.int .i64 s,.bool on,.string ⟨c.toArray⟩,.int .i64 sh,.int .i64 pr,.int .i64 si,.string ⟨st.toArray⟩,.int .u64 sum,.slice ta tt.length tc] 29)).alloc (.cells #[.slice none 0 0,.int .i64 0,.bool false] 24)=w4 at CB FB RB HB ⊢
 clear CBc0 CBc1 CBc2 CBf0 CBf1 CBf2
 refine (rclmay_eq (VA.out _ HB.out) hsT.out n false HC).mono ?_
 rintro e w5 ⟨rfl,b5⟩
 replace CB:=hZq (upQ CB.out b5)
 replace FB:=hZq (upQ FB.out b5)
 replace RB:=hZq (upQ RB.out b5)
 replace HB:=hZq (below2Z HB.out b5)
 clear b5
 obtain⟨⟨FBc0,FBc1,FBc2,FBc3,FBc4,FBc5,FBc6,FBc7,FBc8,FBc9⟩,⟨FBf0,FBf1,FBf2,FBf3,FBf4,FBf5,FBf6,FBf7,FBf8,FBf9⟩⟩:=blk10 FB.out
 go_wp2_with fail
 clear FBc0 FBc1 FBc2 FBc3 FBc4 FBc5 FBc6 FBc7 FBc8 FBc9 FBf0 FBf1 FBf2 FBf3 FBf4 FBf5 FBf6 FBf7 FBf8 FBf9
 refine (rfrmay_any (VT.out _ HB.out) hsh.out hc hst HM).mono ?_
 rintro e w6 ⟨rfl,b6⟩
 replace CB:=hZq (upQ CB.out b6)
 replace FB:=hZq (upQ FB.out b6)
 replace RB:=hZq (upQ RB.out b6)
 replace HB:=hZq (below2Z HB.out b6)
 clear b6
 obtain⟨⟨CBc0,CBc1,CBc2⟩,⟨CBf0,CBf1,CBf2⟩⟩:=blk3 CB.out
 obtain⟨⟨FBc0,FBc1,FBc2,FBc3,FBc4,FBc5,FBc6,FBc7,FBc8,FBc9⟩,⟨FBf0,FBf1,FBf2,FBf3,FBf4,FBf5,FBf6,FBf7,FBf8,FBf9⟩⟩:=blk10 FB.out
 have hRB:=(Array.getElem?_eq_some_iff.1 RB.out).1
 have hCB:=(Array.getElem?_eq_some_iff.1 CB.out).1
 have hFB:=(Array.getElem?_eq_some_iff.1 FB.out).1
 go_upto_region 4 with fail
 clear CBc0 CBc1 CBc2 CBf0 CBf1 CBf2 FBc0 FBc1 FBc2 FBc3 FBc4 FBc5 FBc6 FBc7 FBc8 FBc9 FBf0 FBf1 FBf2 FBf3 FBf4 FBf5 FBf6 FBf7 FBf8 FBf9
 have b7:=bl_newZ w6 (.cells #[.slice ca t.length cc,.int .i64 (s+1),.bool false] 24)
 have DB:=newQ w6 (.cells #[.slice ca t.length cc,.int .i64 (s+1),.bool false] 24)
 have hDB:w.heap.size≤w6.heap.size:=HB.out.size
 replace CB:=hZq (upQ CB.out b7)
 replace FB:=hZq (upQ FB.out b7)
 replace RB:=hZq (upQ RB.out b7)
 replace HB:=hZq (below2Z HB.out b7)
 clear b7
 replace DB:=hZq DB
 generalize w6.alloc (.cells #[.slice ca t.length cc,.int .i64 (s+1),.bool false] 24)=w8 at CB FB RB DB HB ⊢
 generalize w6.heap.size=BD at DB hDB hRB hCB hFB ⊢
 clear hCB hFB
 obtain⟨⟨FBc0,FBc1,FBc2,FBc3,FBc4,FBc5,FBc6,FBc7,FBc8,FBc9⟩,⟨FBf0,FBf1,FBf2,FBf3,FBf4,FBf5,FBf6,FBf7,FBf8,FBf9⟩⟩:=blk10 FB.out
 obtain⟨⟨CBc0,CBc1,CBc2⟩,⟨CBf0,CBf1,CBf2⟩⟩:=blk3 CB.out
 obtain⟨⟨DBc0,DBc1,DBc2⟩,⟨DBf0,DBf1,DBf2⟩⟩:=blk3 DB.out
 go_upto_region 9 with fail
 clear FBc0 FBc1 FBc2 FBc3 FBc4 FBc5 FBc6 FBc7 FBc8 FBc9 FBf0 FBf1 FBf2 FBf3 FBf4 FBf5 FBf6 FBf7 FBf8 FBf9 CBc0 CBc1 CBc2 CBf0 CBf1 CBf2 DBc0 DBc1 DBc2 DBf0 DBf1 DBf2
 have DBz:Hid ((w8.setCell ⟨BD,2,none⟩ (.bool false)).heap[BD]?=some (.cells #[.slice ca t.length cc,.int .i64 (s+1),.bool false] 24 (0,0))):=hZq (heap_setCell_same w8 BD 2 _ _ (.bool false) DB.out)
 have CBz:Hid ((w8.setCell ⟨BD,2,none⟩ (.bool false)).heap[w.heap.size]?=some (.cells #[.slice ca t.length cc,.int .i64 n,.bool false] 24 (0,0))):=hZq ((Below.heap_setCell _ _ _ (w.heap.size) (show ¬ w.heap.size=BD by omega)).trans CB.out)
 have FBz:Hid ((w8.setCell ⟨BD,2,none⟩ (.bool false)).heap[w.heap.size+1]?=some (.cells #[.int .i64 1,.int .i64 s,.bool on,.string ⟨c.toArray⟩,.int .i64 sh,.int .i64 pr,.int .i64 si,.string ⟨st.toArray⟩,.int .u64 sum,.slice ta tt.length tc] 29 (0,0))):=hZq ((Below.heap_setCell _ _ _ (w.heap.size+1) (show ¬ w.heap.size+1=BD by omega)).trans FB.out)
 have RBz:Hid ((w8.setCell ⟨BD,2,none⟩ (.bool false)).heap[w.heap.size+1+1]?=some (.cells #[.slice none 0 0,.int .i64 0,.bool false] 24 (0,0))):=hZq ((Below.heap_setCell _ _ _ (w.heap.size+1+1) (show ¬ w.heap.size+1+1=BD by omega)).trans RB.out)
 have HBz:Hid (Below w.heap.size w (w8.setCell ⟨BD,2,none⟩ (.bool false))):=hZq (HB.out.setCell (show w.heap.size≤BD by omega) _)
 clear HB CB FB RB DB
 generalize w8.setCell ⟨BD,2,none⟩ (.bool false)=w9 at CBz FBz RBz DBz HBz ⊢
 have CB:=CBz
 clear CBz
 have FB:=FBz
 clear FBz
 have RB:=RBz
 clear RBz
 have DB:=DBz
 clear DBz
 have HB:=HBz
 clear HBz
 obtain⟨⟨DBc0,DBc1,DBc2⟩,⟨DBf0,DBf1,DBf2⟩⟩:=blk3 DB.out
 obtain⟨⟨FBc0,FBc1,FBc2,FBc3,FBc4,FBc5,FBc6,FBc7,FBc8,FBc9⟩,⟨FBf0,FBf1,FBf2,FBf3,FBf4,FBf5,FBf6,FBf7,FBf8,FBf9⟩⟩:=blk10 FB.out
 obtain⟨⟨CBc0,CBc1,CBc2⟩,⟨CBf0,CBf1,CBf2⟩⟩:=blk3 CB.out
 go_wp2_with fail
 clear DBc0 DBc1 DBc2 DBf0 DBf1 DBf2 FBc0 FBc1 FBc2 FBc3 FBc4 FBc5 FBc6 FBc7 FBc8 FBc9 FBf0 FBf1 FBf2 FBf3 FBf4 FBf5 FBf6 FBf7 FBf8 FBf9 CBc0 CBc1 CBc2 CBf0 CBf1 CBf2
 have hDD:=(Array.getElem?_eq_some_iff.1 DB.out).1
 refine (rset_eqC (VA.out _ HB.out) hl c st on sh pr si).mono ?_
 rintro e w10 ⟨u10,rfl,hu10,b10⟩
 replace CB:=hZq (upQ CB.out b10)
 replace FB:=hZq (upQ FB.out b10)
 replace RB:=hZq (upQ RB.out b10)
 replace DB:=hZq (upQ DB.out b10)
 replace HB:=hZq (below2Z HB.out b10)
 obtain⟨ua,uc,rfl,-⟩:=Tab.open' (OwnR.tab hu10)
 have U:=hZq (OwnR.mono hu10 (show BD+1≤_ from hDD))
 clear hu10 hDD
 clear b10
 go_wp2_with fail
 refine (rdimay_eq (OwnR.tab U.out) hset HS).mono ?_
 rintro e w11 ⟨rfl,b11⟩
 replace CB:=hZq (upQ CB.out b11)
 replace FB:=hZq (upQ FB.out b11)
 replace RB:=hZq (upQ RB.out b11)
 replace DB:=hZq (upQ DB.out b11)
 replace U:=hZq (OwnR.later U.out b11)
 replace HB:=hZq (below2Z HB.out b11)
 clear b11
 obtain⟨⟨DBc0,DBc1,DBc2⟩,⟨DBf0,DBf1,DBf2⟩⟩:=blk3 DB.out
 go_upto_region 19 with fail
 clear DBc0 DBc1 DBc2 DBf0 DBf1 DBf2
 have DBz:Hid ((w11.setCell ⟨BD,0,none⟩ (.slice ua (diSet t ⟨c,on,⟨sh,pr,si,st⟩⟩).length uc)).heap[BD]?=some (.cells #[.slice ua (diSet t ⟨c,on,⟨sh,pr,si,st⟩⟩).length uc,.int .i64 (s+1),.bool false] 24 (0,0))):=hZq (heap_setCell_same w11 BD 0 _ _ (.slice ua (diSet t ⟨c,on,⟨sh,pr,si,st⟩⟩).length uc) DB.out)
 have CBz:Hid ((w11.setCell ⟨BD,0,none⟩ (.slice ua (diSet t ⟨c,on,⟨sh,pr,si,st⟩⟩).length uc)).heap[w.heap.size]?=some (.cells #[.slice ca t.length cc,.int .i64 n,.bool false] 24 (0,0))):=hZq ((Below.heap_setCell _ _ _ (w.heap.size) (show ¬ w.heap.size=BD by omega)).trans CB.out)
 have FBz:Hid ((w11.setCell ⟨BD,0,none⟩ (.slice ua (diSet t ⟨c,on,⟨sh,pr,si,st⟩⟩).length uc)).heap[w.heap.size+1]?=some (.cells #[.int .i64 1,.int .i64 s,.bool on,.string ⟨c.toArray⟩,.int .i64 sh,.int .i64 pr,.int .i64 si,.string ⟨st.toArray⟩,.int .u64 sum,.slice ta tt.length tc] 29 (0,0))):=hZq ((Below.heap_setCell _ _ _ (w.heap.size+1) (show ¬ w.heap.size+1=BD by omega)).trans FB.out)
 have RBz:Hid ((w11.setCell ⟨BD,0,none⟩ (.slice ua (diSet t ⟨c,on,⟨sh,pr,si,st⟩⟩).length uc)).heap[w.heap.size+1+1]?=some (.cells #[.slice none 0 0,.int .i64 0,.bool false] 24 (0,0))):=hZq ((Below.heap_setCell _ _ _ (w.heap.size+1+1) (show ¬ w.heap.size+1+1=BD by omega)).trans RB.out)
 have HBz:Hid (Below w.heap.size w (w11.setCell ⟨BD,0,none⟩ (.slice ua (diSet t ⟨c,on,⟨sh,pr,si,st⟩⟩).length uc))):=hZq (HB.out.setCell (show w.heap.size≤BD by omega) _)
 have Uz:=hZq (OwnR.setCell (a:=⟨BD,0,none⟩) U.out (show BD < BD+1 by omega) (.slice ua (diSet t ⟨c,on,⟨sh,pr,si,st⟩⟩).length uc))
 clear HB CB FB RB DB U
 generalize w11.setCell ⟨BD,0,none⟩ (.slice ua (diSet t ⟨c,on,⟨sh,pr,si,st⟩⟩).length uc)=w12 at CBz FBz RBz DBz Uz HBz ⊢
 have CB:=CBz
 clear CBz
 have FB:=FBz
 clear FBz
 have RB:=RBz
 clear RBz
 have DB:=DBz
 clear DBz
 have U:=Uz
 clear Uz
 have HB:=HBz
 clear HBz
 obtain⟨⟨DBc0,DBc1,DBc2⟩,⟨DBf0,DBf1,DBf2⟩⟩:=blk3 DB.out
 obtain⟨⟨RBc0,RBc1,RBc2⟩,⟨RBf0,RBf1,RBf2⟩⟩:=blk3 RB.out
 go_wp2_with fail
 clear DBc0 DBc1 DBc2 DBf0 DBf1 DBf2 RBc0 RBc1 RBc2 RBf0 RBf1 RBf2
 have hz:=stN3_heap RB.out (.slice ua (diSet t ⟨c,on,⟨sh,pr,si,st⟩⟩).length uc) (.int .i64 (s+1)) (.bool false)
 have hle:w.heap.size≤w.heap.size+1+1:=by omega
 obtain⟨⟨z0,z1,z2⟩,-⟩:=blk3 hz
 unfold stN3 at z0 z1 z2
 refine bodyPost_ret (v:=.agg #[.slice ua (diSet t ⟨c,on,⟨sh,pr,si,st⟩⟩).length uc,.int .i64 (s+1),.bool false]) (by simp [results,Tryz.results19,go_sem,z0,z1,z2]) rfl ?_
 have hlt:w.heap.size+1+1 < BD+1:=by omega
 exact⟨_,rfl,.inr (.inr (OwnR.mono (((U.out.setCell hlt _).setCell hlt _).setCell hlt _) (by omega))),((HB.out.setCell hle _).setCell hle _).setCell hle _⟩

theorem rclfeed_any {w:World} {v vt:Value} {t:List Row} {k s sh pr si:Int} {on:Bool} {c st:List UInt8} {sum:Nat} {tt:List Row} (hv:Tab w v t) (hvt:Tab w vt tt) (n:Int) (o:Bool) (hsT:Short t) (hsh:Short tt) (hc:c.length≤4294967296) (hst:st.length≤4294967296) (hl:t.length≤1000) {t2:List Row} {n2:Int} {o2:Bool} (h:Hid (clFeed ⟨t,n,o⟩ ⟨k,s,on,c,⟨sh,pr,si,st⟩,sum,tt⟩=⟨t2,n2,o2⟩)) :
  Calls Tryz.prog 19 #[.agg #[v,.int .i64 n,.bool o],.agg #[.int .i64 k,.int .i64 s,.bool on,.string ⟨c.toArray⟩,.int .i64 sh,.int .i64 pr,.int .i64 si,.string ⟨st.toArray⟩,.int .u64 sum,vt]] w fun e w' => ∃ u,e=.returned (.agg #[u,.int .i64 n2,.bool o2])∧CT w' w.heap.size u v vt t2 t tt∧Below w.heap.size w w':=by
 have h:=h.out
 have keep:clTakes ⟨t,n,o⟩ ⟨k,s,on,c,⟨sh,pr,si,st⟩,sum,tt⟩=false→t2=t∧n2=n∧o2=o:=fun ht => by
  unfold clFeed at h
  rw [if_neg (by rw [ht]; decide)] at h
  simp only [Cli.mk.injEq] at h
  exact⟨h.1.symm,h.2.1.symm,h.2.2.symm⟩
 cases hcm:clMay ⟨t,n,o⟩ with
 | false =>
  obtain⟨rfl,rfl,rfl⟩:=keep (by unfold clTakes; rw [hcm]; simp)
  exact rclfeed_c hv hvt n2 o2 (hZq hsT) (hZq hsh) hc hst (hZq hcm)
 | true =>
 cases hm:frMay ⟨k,s,on,c,⟨sh,pr,si,st⟩,sum,tt⟩ with
 | false =>
  obtain⟨rfl,rfl,rfl⟩:=keep (by unfold clTakes; rw [hm]; rfl)
  exact rclfeed_f hv hvt n2 o2 (hZq hsT) (hZq hsh) hc hst (hZq hcm) (hZq hm)
 | true =>
 by_cases hk4:k=4
 ·subst hk4
  obtain⟨rfl,rfl,rfl⟩:=keep (by unfold clTakes; simp)
  exact rclfeed_r hv hvt n2 o2 (hZq hsT) (hZq hsh) hc hst (hZq hcm) (hZq hm)
 by_cases hlt:s < n
 ·obtain⟨rfl,rfl,rfl⟩:=keep (by unfold clTakes; simp; intros; omega)
  exact rclfeed_s hv hvt n2 o2 (hZq hsT) (hZq hsh) hc hst hk4 (hZq hcm) (hZq hm) hlt
 have hd:clDo ⟨t,n,o⟩ ⟨k,s,on,c,⟨sh,pr,si,st⟩,sum,tt⟩=⟨t2,n2,o2⟩:=by
  unfold clFeed at h
  rwa [if_pos (clTakes_of hm hk4 hcm (by show n≤s; omega))] at h
 have ho:=frMay_iff.1 hm
 have hss:n≤s∧0≤s∧s≤1099511627776:=⟨by omega,ho.s0,ho.s1⟩
 have hk1:1≤k:=ho.k1
 have hk44:k≤4:=ho.k4
 unfold clDo at hd
 by_cases h3:k=3
 ·subst h3
  rw [if_pos rfl] at hd
  simp only [Cli.mk.injEq] at hd
  obtain⟨rfl,rfl,rfl⟩:=hd
  exact rclfeed_3 hv hvt n o (hZq hsT) (hZq hsh) hc hst (hZq hcm) (hZq hm) hss
 rw [if_neg (by exact h3)] at hd
 cases ho2:(o || decide (n < s)) with
 | true =>
  rw [if_pos ho2] at hd
  simp only [Cli.mk.injEq] at hd
  obtain⟨rfl,rfl,rfl⟩:=hd
  cases o with
  | true => exact rclfeed_o1 hv hvt n (hZq hsT) (hZq hsh) hc hst h3 hk4 (hZq hcm) (hZq hm) hss
  | false => exact rclfeed_o2 hv hvt n (hZq hsT) (hZq hsh) hc hst h3 hk4 (by simpa using ho2) (hZq hcm) (hZq hm) hss
 | false =>
  rw [if_neg (by show ¬ (o || decide (n < s))=true; rw [ho2]; decide)] at hd
  simp only [Bool.or_eq_false_iff,decide_eq_false_iff_not] at ho2
  obtain⟨rfl,hsn⟩:=ho2
  by_cases h2:k=2
  ·subst h2
   rw [if_pos rfl] at hd
   simp only [Cli.mk.injEq] at hd
   obtain⟨rfl,rfl,rfl⟩:=hd
   refine rclfeed_2 hv hvt n (hZq hsT) (hZq hsh) hc hst (hZq hcm) (hZq hm) hss (by omega) (z:=diSum t) (hZq rfl) ?_
   rw [Bool.eq_iff_iff]
   simp [Int.ofNat_inj]
  ·obtain rfl:k=1:=by omega
   rw [if_neg (by show ¬ (1:Int)=2; decide)] at hd
   simp only at hd
   cases hms:diMay (diSet t ⟨c,on,⟨sh,pr,si,st⟩⟩) with
   | false =>
    rw [if_neg (by rw [hms]; decide)] at hd
    simp only [Cli.mk.injEq] at hd
    obtain⟨rfl,rfl,rfl⟩:=hd
    exact rclfeed_1n hv hvt n (hZq hsT) (hZq hsh) hc hst (hZq hcm) (hZq hm) hss (by omega) hl (set_short hsT hc hst) (hZq hms)
   | true =>
    rw [if_pos hms] at hd
    simp only [Cli.mk.injEq] at hd
    obtain⟨rfl,rfl,rfl⟩:=hd
    exact rclfeed_1y hv hvt n (hZq hsT) (hZq hsh) hc hst (hZq hcm) (hZq hm) hss (by omega) hl (set_short hsT hc hst) (hZq hms)

theorem rclask_a {w:World} {v:Value} {t:List Row} (hv:Tab w v t) (n:Int) (hs:Short t) (HC:Hid (clMay ⟨t,n,false⟩=true)) :
  Calls Tryz.prog 16 #[.agg #[v,.int .i64 n,.bool false]] w fun e w' => e=.returned (.tuple #[.string ⟨([]:List UInt8).toArray⟩,.bool false])∧Below w.heap.size w w':=by
 obtain⟨ca,cc,rfl,-⟩:=hv.open'
 have b0:=bl_newZ w (.cells #[.slice ca t.length cc,.int .i64 n,.bool false] 24)
 have HB:=hZq b0
 have VA:=hZq (hv.later b0)
 have CB:=newQ w (.cells #[.slice ca t.length cc,.int .i64 n,.bool false] 24)
 replace CB:=hZq CB
 clear b0
 clear hv
 go_enter Tryz.func16,Tryz.ntmps16
 obtain⟨⟨CBc0,CBc1,CBc2⟩,⟨CBf0,CBf1,CBf2⟩⟩:=blk3 CB.out
 go_wp2_with fail
 clear CBc0 CBc1 CBc2 CBf0 CBf1 CBf2
 refine (rclmay_eq VA.out hs _ false HC).mono ?_
 rintro e w2 ⟨rfl,b2⟩
 replace CB:=hZq (upQ CB.out b2)
 replace VA:=hZq (VA.out.later b2)
 replace HB:=hZq (below2Z HB.out b2)
 clear b2
 obtain⟨⟨CBc0,CBc1,CBc2⟩,⟨CBf0,CBf1,CBf2⟩⟩:=blk3 CB.out
 go_wp2_with fail
 clear CBc0 CBc1 CBc2 CBf0 CBf1 CBf2
 go_wp2_with fail
 go_ret2
 exact⟨rfl,HB.out⟩

theorem rclask_b {w:World} {v:Value} {t:List Row} (hv:Tab w v t) (n:Int) (hs:Short t) (o:Bool) (HC:Hid (clMay ⟨t,n,o⟩=false)) :
  Calls Tryz.prog 16 #[.agg #[v,.int .i64 n,.bool o]] w fun e w' => e=.returned (.tuple #[.string ⟨([]:List UInt8).toArray⟩,.bool false])∧Below w.heap.size w w':=by
 obtain⟨ca,cc,rfl,-⟩:=hv.open'
 have b0:=bl_newZ w (.cells #[.slice ca t.length cc,.int .i64 n,.bool o] 24)
 have HB:=hZq b0
 have VA:=hZq (hv.later b0)
 have CB:=newQ w (.cells #[.slice ca t.length cc,.int .i64 n,.bool o] 24)
 replace CB:=hZq CB
 clear b0
 clear hv
 go_enter Tryz.func16,Tryz.ntmps16
 obtain⟨⟨CBc0,CBc1,CBc2⟩,⟨CBf0,CBf1,CBf2⟩⟩:=blk3 CB.out
 go_wp2_with fail
 clear CBc0 CBc1 CBc2 CBf0 CBf1 CBf2
 refine (rclmay_eq VA.out hs _ o HC).mono ?_
 rintro e w2 ⟨rfl,b2⟩
 replace CB:=hZq (upQ CB.out b2)
 replace VA:=hZq (VA.out.later b2)
 replace HB:=hZq (below2Z HB.out b2)
 clear b2
 go_wp2_with fail
 go_ret2
 exact⟨rfl,HB.out⟩

theorem rclask_c {w:World} {v:Value} {t:List Row} (hv:Tab w v t) (n:Int) (hs:Short t) (hn:n≤1099511627776) (HC:Hid (clMay ⟨t,n,true⟩=true)) {l:List UInt8} (HE:Hid (frEnc ⟨4,n,false,[],⟨0,0,0,[]⟩,0,[]⟩=(l,0))) :
  Calls Tryz.prog 16 #[.agg #[v,.int .i64 n,.bool true]] w fun e w' => e=.returned (.tuple #[.string ⟨l.toArray⟩,.bool true])∧Below w.heap.size w w':=by
 have hmin:min n 1099511627776=n:=by omega
 clear hn
 obtain⟨ca,cc,rfl,-⟩:=hv.open'
 have b0:=bl_newZ w (.cells #[.slice ca t.length cc,.int .i64 n,.bool true] 24)
 have HB:=hZq b0
 have VA:=hZq (hv.later b0)
 have CB:=newQ w (.cells #[.slice ca t.length cc,.int .i64 n,.bool true] 24)
 replace CB:=hZq CB
 clear b0
 clear hv
 go_enter Tryz.func16,Tryz.ntmps16
 obtain⟨⟨CBc0,CBc1,CBc2⟩,⟨CBf0,CBf1,CBf2⟩⟩:=blk3 CB.out
 go_wp2_with fail
 clear CBc0 CBc1 CBc2 CBf0 CBf1 CBf2
 refine (rclmay_eq VA.out hs _ true HC).mono ?_
 rintro e w2 ⟨rfl,b2⟩
 replace CB:=hZq (upQ CB.out b2)
 replace VA:=hZq (VA.out.later b2)
 replace HB:=hZq (below2Z HB.out b2)
 clear b2
 obtain⟨⟨CBc0,CBc1,CBc2⟩,⟨CBf0,CBf1,CBf2⟩⟩:=blk3 CB.out
 go_wp2_with fail
 clear CBc0 CBc1 CBc2 CBf0 CBf1 CBf2
 refine (rfrenc_any (OwnR.tab (ownR_nil _ 0)) (fun r hr => by simp at hr) (by decide) (by decide) (by decide) HE).mono ?_
 rintro e w3 ⟨rfl,b3⟩
 replace CB:=hZq (upQ CB.out b3)
 replace VA:=hZq (VA.out.later b3)
 replace HB:=hZq (below2Z HB.out b3)
 clear b3
 go_wp2_with fail
 go_ret2
 exact⟨rfl,HB.out⟩

theorem rclask_d {w:World} {v:Value} {t:List Row} (hv:Tab w v t) (hs:Short t) (HC:Hid (clMay ⟨t,1099511627777,true⟩=true)) {l:List UInt8} (HE:Hid (frEnc ⟨4,1099511627776,false,[],⟨0,0,0,[]⟩,0,[]⟩=(l,0))) :
  Calls Tryz.prog 16 #[.agg #[v,.int .i64 1099511627777,.bool true]] w fun e w' => e=.returned (.tuple #[.string ⟨l.toArray⟩,.bool true])∧Below w.heap.size w w':=by
 obtain⟨ca,cc,rfl,-⟩:=hv.open'
 have b0:=bl_newZ w (.cells #[.slice ca t.length cc,.int .i64 1099511627777,.bool true] 24)
 have HB:=hZq b0
 have VA:=hZq (hv.later b0)
 have CB:=newQ w (.cells #[.slice ca t.length cc,.int .i64 1099511627777,.bool true] 24)
 replace CB:=hZq CB
 clear b0
 clear hv
 go_enter Tryz.func16,Tryz.ntmps16
 obtain⟨⟨CBc0,CBc1,CBc2⟩,⟨CBf0,CBf1,CBf2⟩⟩:=blk3 CB.out
 go_wp2_with fail
 clear CBc0 CBc1 CBc2 CBf0 CBf1 CBf2
 refine (rclmay_eq VA.out hs _ true HC).mono ?_
 rintro e w2 ⟨rfl,b2⟩
 replace CB:=hZq (upQ CB.out b2)
 replace VA:=hZq (VA.out.later b2)
 replace HB:=hZq (below2Z HB.out b2)
 clear b2
 obtain⟨⟨CBc0,CBc1,CBc2⟩,⟨CBf0,CBf1,CBf2⟩⟩:=blk3 CB.out
 go_wp2_with fail
 clear CBc0 CBc1 CBc2 CBf0 CBf1 CBf2
 refine (rfrenc_any (OwnR.tab (ownR_nil _ 0)) (fun r hr => by simp at hr) (by decide) (by decide) (by decide) HE).mono ?_
 rintro e w3 ⟨rfl,b3⟩
 replace CB:=hZq (upQ CB.out b3)
 replace VA:=hZq (VA.out.later b3)
 replace HB:=hZq (below2Z HB.out b3)
 clear b3
 go_wp2_with fail
 go_ret2
 exact⟨rfl,HB.out⟩

theorem rclask_any {w:World} {v:Value} {t:List Row} (hv:Tab w v t) (n:Int) (o:Bool) (hs:Short t) {l:List UInt8} {r:Bool} (h:Hid (clAsk ⟨t,n,o⟩=(l,r))) :
  Calls Tryz.prog 16 #[.agg #[v,.int .i64 n,.bool o]] w fun e w' => e=.returned (.tuple #[.string ⟨l.toArray⟩,.bool r])∧Below w.heap.size w w':=by
 have h:=h.out
 unfold clAsk at h
 cases hc:clMay ⟨t,n,o⟩ with
 | false =>
  rw [if_neg (by simp [hc])] at h
  simp only [Prod.mk.injEq] at h
  obtain⟨rfl,rfl⟩:=h
  exact rclask_b hv n hs o (hZq hc)
 | true =>
  cases o with
  | false =>
   rw [if_neg (by simp)] at h
   simp only [Prod.mk.injEq] at h
   obtain⟨rfl,rfl⟩:=h
   exact rclask_a hv n hs (hZq hc)
  | true =>
   rw [if_pos (by simp [hc])] at h
   simp only [Prod.mk.injEq] at h
   obtain⟨rfl,rfl⟩:=h
   have he:=enc_mayP (clReq_may hc)
   by_cases hn:n≤1099511627776
   ·have e:clReq ⟨t,n,true⟩=⟨4,n,false,[],⟨0,0,0,[]⟩,0,[]⟩:=by unfold clReq; rw [if_pos hn]; rfl
    rw [e] at he ⊢
    exact rclask_c hv n hs hn (hZq hc) (hZq he)
   ·have e:clReq ⟨t,n,true⟩=⟨4,1099511627776,false,[],⟨0,0,0,[]⟩,0,[]⟩:=by unfold clReq; rw [if_neg hn]; rfl
    rw [e] at he ⊢
    have h1:=(clMay_parts hc).2.1
    obtain rfl:n=1099511627777:=by simp only at h1; omega
    exact rclask_d hv hs (hZq hc) (hZq he)

end Go.Proofs.YtekkofldhhdpgaaGreat

end

section

namespace Go.Proofs.YtekkofldhhdpgaaGreat
open Go.RowKit

theorem rditakeO_get (l:List UInt8) (hl:l.length≤4294967296) (p:Int) {n f er:Nat} (h:vget l p=(n,f,er)) (he:er ≠ 0) (w:World) :
  Calls Tryz.prog 156 #[.string ⟨l.toArray⟩,.int .i64 p] w (TookO (diTake l p) w):=by
 have HR:=hZq (ditake_1 h he)
 have HG:=hZq h
 have t1:((er:Int) != 0)=true:=by simp; omega
 clear h he
 rw [HR.out]
 go_enter Tryz.func156,Tryz.ntmps156
 go_wp2_with fail
 refine (rget_eq l hl _ _ HG).mono ?_
 rintro e w1 ⟨rfl,rfl⟩
 go_wp2_with fail
 go_ret3
 exact⟨_,rfl,ownR_nil _ _,Below.refl _ _⟩

theorem rditakeO_many (l:List UInt8) (hl:l.length≤4294967296) (p:Int) {n f:Nat} (h:vget l p=(n,f,0)) (hn:32 < n) (w:World) :
  Calls Tryz.prog 156 #[.string ⟨l.toArray⟩,.int .i64 p] w (TookO (diTake l p) w):=by
 have HR:=hZq (ditake_2 h hn)
 have HG:=hZq h
 clear h
 rw [HR.out]
 go_enter Tryz.func156,Tryz.ntmps156
 go_wp2_with fail
 refine (rget_eq l hl _ _ HG).mono ?_
 rintro e w1 ⟨rfl,rfl⟩
 go_wp2_with fail
 go_ret3
 exact⟨_,rfl,ownR_nil _ _,Below.refl _ _⟩

theorem rditakeO_rows (l:List UInt8) (hl:l.length≤4294967296) (p:Int) {n f:Nat} (h:vget l p=(n,f,0)) (hn:¬ 32 < n) {T:List Row} {g es:Nat} (h2:diRows n l f=(T,g,es)) (w:World) :
  Calls Tryz.prog 156 #[.string ⟨l.toArray⟩,.int .i64 p] w (TookO (diTake l p) w):=by
 have HG:=hZq h
 have hfl:=(vget_in_facts h).2.2.1
 have H2:Hid (diComb [] (diRows (n - 0) l f)=(T,g,es)):=by show _=_; rw [diComb_start]; exact h2
 have HE:Hid (∀ e,e ≠ 0→(([]:List Row),0,e)=(T,g,es)→diTake l p=([],0,e)):=by
  show ∀ e,_
  intro e he e'
  simp only [Prod.mk.injEq] at e'
  obtain⟨rfl,rfl,rfl⟩:=e'
  exact ditake_3 h hn h2 he
 have HEnd:Hid (∀ acc q,(acc,q,0)=(T,g,es)→(diMay acc=false→diTake l p=([],0,3))∧(diMay acc=true→diTake l p=(acc,q,0))∧Short acc):=by
  show ∀ acc q,_
  intro acc q e'
  simp only [Prod.mk.injEq] at e'
  obtain⟨rfl,rfl,rfl⟩:=e'
  exact⟨ditake_4 h hn h2,ditake_5 h hn h2,ok_short (diRows_bytes n hfl h2).2.1⟩
 obtain⟨R,hR⟩ : ∃ R,diTake l p=R:=⟨_,rfl⟩
 rw [hR] at HE HEnd
 rw [hR]
 clear h h2 hR
 go_enter Tryz.func156,Tryz.ntmps156
 go_wp2_with fail
 refine (rget_eq l hl _ _ HG).mono ?_
 rintro e w1 ⟨rfl,rfl⟩
 go_wp2_with fail
 go_loopw [8,10,11] (fun q v i wr => ∃ (k:Nat) (acc:List Row) (pl:Nat),k≤n∧i=.int .i64 k∧q=.int .i64 pl∧Hid (OwnR wr w.heap.size v acc)∧Hid (acc.length=k)∧Hid (diComb acc (diRows (n - k) l pl)=(T,g,es))∧Hid (Below w.heap.size w wr)) (fun _ _ i _ => n - (intOf i).toNat)
 case atStart => exact⟨0,[],f,by omega,rfl,rfl,ownR_nil _ _,rfl,H2,Below.refl _ _⟩
 case round =>
  clear H2
  obtain⟨k,acc,pl,hk,rfl,rfl,HO,HL,HC,HN⟩:=hrel
  by_cases hlt:k < n
  ·obtain⟨c,q0,e0,hi⟩ : ∃ c q0 e0,idTake l pl=(c,q0,e0):=⟨_,_,_,rfl⟩
   have HI:=hZq (ridtake_eq l hl pl (hZq hi))
   have hc:=HC.out
   rw [show n - k=n - (k+1)+1 by omega] at hc
   by_cases h0:e0=0
   ·subst h0
    obtain⟨x,y,z,st,q,er,hva⟩ : ∃ x y z st q er,vaTake l q0=(⟨x,y,z,st⟩,q,er):=⟨_,_,_,_,_,_,rfl⟩
    have HV:=hZq (rvatake_eq l hl q0 (hZq hva))
    by_cases he:er=0
    ·subst he
     rw [diComb_step acc (taker_ok hi hva)] at hc
     have HC2:=hZq hc
     have hal:acc.length≤32:=by rw [HL.out]; omega
     have HL2:Hid ((acc ++ [(⟨c,x,y,z,st⟩ : Row)]).length=k+1):=by show _=_; rw [List.length_append,HL.out]; rfl
     clear hi hva hc HC
     go_wp2_with fail
     refine (HI.out _).mono ?_
     rintro e w1 ⟨rfl,rfl⟩
     go_wp2_with fail
     refine (HV.out _).mono ?_
     rintro e w2 ⟨rfl,hb2⟩
     have N2:=hZq (below2' HN.out hb2)
     have N3:=hZq (bl_alloc N2.out (.cells #[.int .i64 x,.int .i64 y,.int .i64 z,.string ⟨st.toArray⟩] 26))
     have N4:=hZq (bl_alloc N3.out (.cells #[.string ⟨c.toArray⟩,.int .i64 x,.int .i64 y,.int .i64 z,.string ⟨st.toArray⟩] 93))
     have O2:=hZq (((HO.out.later hb2).alloc (.cells #[.int .i64 x,.int .i64 y,.int .i64 z,.string ⟨st.toArray⟩] 26)).alloc (.cells #[.string ⟨c.toArray⟩,.int .i64 x,.int .i64 y,.int .i64 z,.string ⟨st.toArray⟩] 93))
     have hz2:=N4.out.size
     clear hb2 HO
     go_wp2_with (at_builtin; go_must (refine wpList_append_rows rfl _ _ rfl w.heap.size _ acc rfl (by exact O2.out) _ 1 1 [⟨c,x,y,z,st⟩] rfl rfl (fun e => nomatch e) ?c1 (by simp; omega) hz2 ?_))
     case c1 => exact new_row (by simp)
     intro v' w' hown' hb'
     have O3:=hZq hown'
     have N5:=hZq (N4.out.trans hb')
     clear hown' hb' hz2 O2
     go_wp2_with fail
     go_roundw
     case rel => exact⟨k+1,acc ++ [⟨c,x,y,z,st⟩],q,by omega,by go_num,rfl,O3,HL2,HC2,N5⟩
     case measure => simp [intOf]; omega
    ·rw [diComb_err acc (taker_va hi hva he) he] at hc
     have HR:=hZq (HE.out er he hc)
     have t1:((er:Int) != 0)=true:=by simp; omega
     clear hi hva hc he
     go_wp2_with fail
     refine (HI.out _).mono ?_
     rintro e w1 ⟨rfl,rfl⟩
     go_wp2_with fail
     refine (HV.out _).mono ?_
     rintro e w2 ⟨rfl,hb2⟩
     have N2:=hZq (bl_alloc (below2' HN.out hb2) (.cells #[.int .i64 x,.int .i64 y,.int .i64 z,.string ⟨st.toArray⟩] 26))
     clear hb2
     go_wp2_with fail
     go_ret3
     exact⟨_,by rw [HR.out]; rfl,by rw [HR.out]; exact ownR_nil _ _,N2.out⟩
   ·rw [diComb_err acc (taker_id hi h0) h0] at hc
    have HR:=hZq (HE.out e0 h0 hc)
    have t1:((e0:Int) != 0)=true:=by simp; omega
    clear hi hc h0
    go_wp2_with fail
    refine (HI.out _).mono ?_
    rintro e w1 ⟨rfl,rfl⟩
    go_wp2_with fail
    go_ret3
    exact⟨_,by rw [HR.out]; rfl,by rw [HR.out]; exact ownR_nil _ _,HN.out⟩
  ·obtain rfl:k=n:=by omega
   have hc:=HC.out
   rw [Nat.sub_self,diComb_end] at hc
   obtain⟨e1,e2,e3⟩:=HEnd.out acc pl hc
   have HTb:=hZq HO.out.tab
   clear hc
   cases hm:diMay acc with
   | false =>
    have HR:=hZq (e1 hm)
    have HM:=hZq (rdimay_eq HTb.out e3 (hZq hm))
    clear hm e1 e2 e3
    go_wp2_with fail
    refine HM.out.mono ?_
    rintro e w2 ⟨rfl,hb2⟩
    have N2:=hZq (below2' HN.out hb2)
    clear hb2
    go_wp2_with fail
    go_ret3
    exact⟨_,by rw [HR.out]; rfl,by rw [HR.out]; exact ownR_nil _ _,N2.out⟩
   | true =>
    have HR:=hZq (e2 hm)
    have HM:=hZq (rdimay_eq HTb.out e3 (hZq hm))
    clear hm e1 e2 e3
    go_wp2_with fail
    refine HM.out.mono ?_
    rintro e w2 ⟨rfl,hb2⟩
    have N2:=hZq (below2' HN.out hb2)
    have T2:=hZq (HO.out.later hb2)
    clear hb2
    go_wp2_with fail
    go_ret3
    exact⟨_,by rw [HR.out]; rfl,by rw [HR.out]; exact T2.out,N2.out⟩

theorem rditakeO_any (l:List UInt8) (hl:l.length≤4294967296) (p:Int) (w:World) :
  Calls Tryz.prog 156 #[.string ⟨l.toArray⟩,.int .i64 p] w (TookO (diTake l p) w):=by
 obtain⟨n,f,er,h⟩ : ∃ n f er,vget l p=(n,f,er):=⟨_,_,_,rfl⟩
 by_cases he:er=0
 ·subst he
  by_cases hn:32 < n
  ·exact rditakeO_many l hl p h hn w
  ·obtain⟨T,g,es,h2⟩ : ∃ T g es,diRows n l f=(T,g,es):=⟨_,_,_,rfl⟩
   exact rditakeO_rows l hl p h hn h2 w
 ·exact rditakeO_get l hl p h he w

end Go.Proofs.YtekkofldhhdpgaaGreat

end
