/-
 THE PROOF OF ClientFeeds: for every input the law returns true, and each argument reads behind the call as it read before. No condition.
-/
import Derived.Test.YtekkofldhhdpgaaGreatC22
import Derived.Test.YtekkofldhhdpgaaGreatC26
import Derived.Test.YtekkofldhhdpgaaGreatC28
import Derived.Test.YtekkofldhhdpgaaGreatC29
import Derived.Test.YtekkofldhhdpgaaGreatC09
import Derived.Test.YtekkofldhhdpgaaGreatRows
import Derived.ProofKit
import Derived.OpenShut
import Derived.ShutString
import Derived.ChangeOld
import Derived.SliceStrings
import Derived.Lib.SmallJoins

set_option maxHeartbeats 12800000
set_option maxRecDepth 100000

section

namespace Go.Proofs.YtekkofldhhdpgaaGreat
open Go.RowKit

theorem clf_1 {w:World} {v1 v2 vt:Value} {t1 t2:List Row} {k s sh pr si:Int} {on:Bool} {c st:List UInt8} {sum:Nat} {tt:List Row} (hv1:Tab w v1 t1) (n1:Int) (o1:Bool) (hv2:Tab w v2 t2) (n2:Int) (o2:Bool) (hvt:Tab w vt tt) (_hM:c.length≤maxLen∧st.length≤maxLen∧sum < 18446744073709551616∧(Lit.int .i64 k).wf=true) (H1:Hid (fewT t1=false)) :
  Calls Tryz.prog 3 #[.agg #[v1,.int .i64 n1,.bool o1],.agg #[v2,.int .i64 n2,.bool o2],.agg #[.int .i64 k,.int .i64 s,.bool on,.string ⟨c.toArray⟩,.int .i64 sh,.int .i64 pr,.int .i64 si,.string ⟨st.toArray⟩,.int .u64 sum,vt]] w fun e w' => e=.returned (.bool true)∧Below w.heap.size w w':=by
 obtain⟨va,ca,rfl,-⟩:=hv1.open'
 obtain⟨vb,cb,rfl,-⟩:=hv2.open'
 obtain⟨ta,tc,rfl,-⟩:=hvt.open'
 have b0:=bl_newZ w (.cells #[.slice va t1.length ca,.int .i64 n1,.bool o1] 24)
 have b1:=bl_newZ (w.alloc (.cells #[.slice va t1.length ca,.int .i64 n1,.bool o1] 24)) (.cells #[.slice vb t2.length cb,.int .i64 n2,.bool o2] 24)
 have b2:=bl_newZ ((w.alloc (.cells #[.slice va t1.length ca,.int .i64 n1,.bool o1] 24)).alloc (.cells #[.slice vb t2.length cb,.int .i64 n2,.bool o2] 24)) (.cells #[.int .i64 k,.int .i64 s,.bool on,.string ⟨c.toArray⟩,.int .i64 sh,.int .i64 pr,.int .i64 si,.string ⟨st.toArray⟩,.int .u64 sum,.slice ta tt.length tc] 29)
 have HB:=hZq (below2Z (below2Z b0 b1) b2)
 have VA:=hZq (((hv1.later b0).later b1).later b2)
 have VB:=hZq (((hv2.later b0).later b1).later b2)
 have VT:=hZq (((hvt.later b0).later b1).later b2)
 have CA:=newQ w (.cells #[.slice va t1.length ca,.int .i64 n1,.bool o1] 24)
 replace CA:=upQ CA b1
 replace CA:=upQ CA b2
 replace CA:=hZq CA
 have CB:=newQ (w.alloc (.cells #[.slice va t1.length ca,.int .i64 n1,.bool o1] 24)) (.cells #[.slice vb t2.length cb,.int .i64 n2,.bool o2] 24)
 rw [World.size_alloc] at CB
 replace CB:=upQ CB b2
 replace CB:=hZq CB
 have FB:=newQ ((w.alloc (.cells #[.slice va t1.length ca,.int .i64 n1,.bool o1] 24)).alloc (.cells #[.slice vb t2.length cb,.int .i64 n2,.bool o2] 24)) (.cells #[.int .i64 k,.int .i64 s,.bool on,.string ⟨c.toArray⟩,.int .i64 sh,.int .i64 pr,.int .i64 si,.string ⟨st.toArray⟩,.int .u64 sum,.slice ta tt.length tc] 29)
 rw [World.size_alloc,World.size_alloc] at FB
 replace FB:=hZq FB
 clear b0 b1 b2
 clear hv1 hv2 hvt
 go_enter Tryz.func3,Tryz.ntmps3
 obtain⟨⟨CAc0,CAc1,CAc2⟩,⟨CAf0,CAf1,CAf2⟩⟩:=blk3 CA.out
 go_wp2_with fail
 clear CAc0 CAc1 CAc2 CAf0 CAf1 CAf2
 refine (clfew_eq VA.out n1 o1 H1).mono ?_
 rintro e w4 ⟨rfl,b4⟩
 replace CA:=hZq (upQ CA.out b4)
 replace CB:=hZq (upQ CB.out b4)
 replace FB:=hZq (upQ FB.out b4)
 replace VA:=hZq (VA.out.later b4)
 replace VB:=hZq (VB.out.later b4)
 replace VT:=hZq (VT.out.later b4)
 replace HB:=hZq (below2Z HB.out b4)
 clear b4
 go_wp2_with fail
 refine (live19 _).mono ?_
 rintro e w5 ⟨rfl,b5⟩
 replace CA:=hZq (upQ CA.out b5)
 replace CB:=hZq (upQ CB.out b5)
 replace FB:=hZq (upQ FB.out b5)
 replace VA:=hZq (VA.out.later b5)
 replace VB:=hZq (VB.out.later b5)
 replace VT:=hZq (VT.out.later b5)
 replace HB:=hZq (below2Z HB.out b5)
 clear b5
 go_wp2_with fail
 go_ret
 exact⟨rfl,HB.out⟩

theorem clf_2 {w:World} {v1 v2 vt:Value} {t1 t2:List Row} {k s sh pr si:Int} {on:Bool} {c st:List UInt8} {sum:Nat} {tt:List Row} (hv1:Tab w v1 t1) (n1:Int) (o1:Bool) (hv2:Tab w v2 t2) (n2:Int) (o2:Bool) (hvt:Tab w vt tt) (_hM:c.length≤maxLen∧st.length≤maxLen∧sum < 18446744073709551616∧(Lit.int .i64 k).wf=true) (H1:Hid (fewT t1=true)) (H2:Hid (fewT t2=false)) :
  Calls Tryz.prog 3 #[.agg #[v1,.int .i64 n1,.bool o1],.agg #[v2,.int .i64 n2,.bool o2],.agg #[.int .i64 k,.int .i64 s,.bool on,.string ⟨c.toArray⟩,.int .i64 sh,.int .i64 pr,.int .i64 si,.string ⟨st.toArray⟩,.int .u64 sum,vt]] w fun e w' => e=.returned (.bool true)∧Below w.heap.size w w':=by
 obtain⟨va,ca,rfl,-⟩:=hv1.open'
 obtain⟨vb,cb,rfl,-⟩:=hv2.open'
 obtain⟨ta,tc,rfl,-⟩:=hvt.open'
 have b0:=bl_newZ w (.cells #[.slice va t1.length ca,.int .i64 n1,.bool o1] 24)
 have b1:=bl_newZ (w.alloc (.cells #[.slice va t1.length ca,.int .i64 n1,.bool o1] 24)) (.cells #[.slice vb t2.length cb,.int .i64 n2,.bool o2] 24)
 have b2:=bl_newZ ((w.alloc (.cells #[.slice va t1.length ca,.int .i64 n1,.bool o1] 24)).alloc (.cells #[.slice vb t2.length cb,.int .i64 n2,.bool o2] 24)) (.cells #[.int .i64 k,.int .i64 s,.bool on,.string ⟨c.toArray⟩,.int .i64 sh,.int .i64 pr,.int .i64 si,.string ⟨st.toArray⟩,.int .u64 sum,.slice ta tt.length tc] 29)
 have HB:=hZq (below2Z (below2Z b0 b1) b2)
 have VA:=hZq (((hv1.later b0).later b1).later b2)
 have VB:=hZq (((hv2.later b0).later b1).later b2)
 have VT:=hZq (((hvt.later b0).later b1).later b2)
 have CA:=newQ w (.cells #[.slice va t1.length ca,.int .i64 n1,.bool o1] 24)
 replace CA:=upQ CA b1
 replace CA:=upQ CA b2
 replace CA:=hZq CA
 have CB:=newQ (w.alloc (.cells #[.slice va t1.length ca,.int .i64 n1,.bool o1] 24)) (.cells #[.slice vb t2.length cb,.int .i64 n2,.bool o2] 24)
 rw [World.size_alloc] at CB
 replace CB:=upQ CB b2
 replace CB:=hZq CB
 have FB:=newQ ((w.alloc (.cells #[.slice va t1.length ca,.int .i64 n1,.bool o1] 24)).alloc (.cells #[.slice vb t2.length cb,.int .i64 n2,.bool o2] 24)) (.cells #[.int .i64 k,.int .i64 s,.bool on,.string ⟨c.toArray⟩,.int .i64 sh,.int .i64 pr,.int .i64 si,.string ⟨st.toArray⟩,.int .u64 sum,.slice ta tt.length tc] 29)
 rw [World.size_alloc,World.size_alloc] at FB
 replace FB:=hZq FB
 clear b0 b1 b2
 clear hv1 hv2 hvt
 go_enter Tryz.func3,Tryz.ntmps3
 obtain⟨⟨CAc0,CAc1,CAc2⟩,⟨CAf0,CAf1,CAf2⟩⟩:=blk3 CA.out
 go_wp2_with fail
 clear CAc0 CAc1 CAc2 CAf0 CAf1 CAf2
 refine (clfew_eq VA.out n1 o1 H1).mono ?_
 rintro e w4 ⟨rfl,b4⟩
 replace CA:=hZq (upQ CA.out b4)
 replace CB:=hZq (upQ CB.out b4)
 replace FB:=hZq (upQ FB.out b4)
 replace VA:=hZq (VA.out.later b4)
 replace VB:=hZq (VB.out.later b4)
 replace VT:=hZq (VT.out.later b4)
 replace HB:=hZq (below2Z HB.out b4)
 clear b4
 obtain⟨⟨CBc0,CBc1,CBc2⟩,⟨CBf0,CBf1,CBf2⟩⟩:=blk3 CB.out
 go_wp2_with fail
 clear CBc0 CBc1 CBc2 CBf0 CBf1 CBf2
 refine (clfew_eq VB.out n2 o2 H2).mono ?_
 rintro e w5 ⟨rfl,b5⟩
 replace CA:=hZq (upQ CA.out b5)
 replace CB:=hZq (upQ CB.out b5)
 replace FB:=hZq (upQ FB.out b5)
 replace VA:=hZq (VA.out.later b5)
 replace VB:=hZq (VB.out.later b5)
 replace VT:=hZq (VT.out.later b5)
 replace HB:=hZq (below2Z HB.out b5)
 clear b5
 go_wp2_with fail
 refine (live19 _).mono ?_
 rintro e w6 ⟨rfl,b6⟩
 replace CA:=hZq (upQ CA.out b6)
 replace CB:=hZq (upQ CB.out b6)
 replace FB:=hZq (upQ FB.out b6)
 replace VA:=hZq (VA.out.later b6)
 replace VB:=hZq (VB.out.later b6)
 replace VT:=hZq (VT.out.later b6)
 replace HB:=hZq (below2Z HB.out b6)
 clear b6
 go_wp2_with fail
 go_ret
 exact⟨rfl,HB.out⟩

theorem clf_3 {w:World} {v1 v2 vt:Value} {t1 t2:List Row} {k s sh pr si:Int} {on:Bool} {c st:List UInt8} {sum:Nat} {tt:List Row} (hv1:Tab w v1 t1) (n1:Int) (o1:Bool) (hv2:Tab w v2 t2) (n2:Int) (o2:Bool) (hvt:Tab w vt tt) (hM:c.length≤maxLen∧st.length≤maxLen∧sum < 18446744073709551616∧(Lit.int .i64 k).wf=true) (H1:Hid (fewT t1=true)) (H2:Hid (fewT t2=true)) (H3:Hid (fewF ⟨k,s,on,c,⟨sh,pr,si,st⟩,sum,tt⟩=false)) :
  Calls Tryz.prog 3 #[.agg #[v1,.int .i64 n1,.bool o1],.agg #[v2,.int .i64 n2,.bool o2],.agg #[.int .i64 k,.int .i64 s,.bool on,.string ⟨c.toArray⟩,.int .i64 sh,.int .i64 pr,.int .i64 si,.string ⟨st.toArray⟩,.int .u64 sum,vt]] w fun e w' => e=.returned (.bool true)∧Below w.heap.size w w':=by
 obtain⟨va,ca,rfl,-⟩:=hv1.open'
 obtain⟨vb,cb,rfl,-⟩:=hv2.open'
 obtain⟨ta,tc,rfl,-⟩:=hvt.open'
 have b0:=bl_newZ w (.cells #[.slice va t1.length ca,.int .i64 n1,.bool o1] 24)
 have b1:=bl_newZ (w.alloc (.cells #[.slice va t1.length ca,.int .i64 n1,.bool o1] 24)) (.cells #[.slice vb t2.length cb,.int .i64 n2,.bool o2] 24)
 have b2:=bl_newZ ((w.alloc (.cells #[.slice va t1.length ca,.int .i64 n1,.bool o1] 24)).alloc (.cells #[.slice vb t2.length cb,.int .i64 n2,.bool o2] 24)) (.cells #[.int .i64 k,.int .i64 s,.bool on,.string ⟨c.toArray⟩,.int .i64 sh,.int .i64 pr,.int .i64 si,.string ⟨st.toArray⟩,.int .u64 sum,.slice ta tt.length tc] 29)
 have HB:=hZq (below2Z (below2Z b0 b1) b2)
 have VA:=hZq (((hv1.later b0).later b1).later b2)
 have VB:=hZq (((hv2.later b0).later b1).later b2)
 have VT:=hZq (((hvt.later b0).later b1).later b2)
 have CA:=newQ w (.cells #[.slice va t1.length ca,.int .i64 n1,.bool o1] 24)
 replace CA:=upQ CA b1
 replace CA:=upQ CA b2
 replace CA:=hZq CA
 have CB:=newQ (w.alloc (.cells #[.slice va t1.length ca,.int .i64 n1,.bool o1] 24)) (.cells #[.slice vb t2.length cb,.int .i64 n2,.bool o2] 24)
 rw [World.size_alloc] at CB
 replace CB:=upQ CB b2
 replace CB:=hZq CB
 have FB:=newQ ((w.alloc (.cells #[.slice va t1.length ca,.int .i64 n1,.bool o1] 24)).alloc (.cells #[.slice vb t2.length cb,.int .i64 n2,.bool o2] 24)) (.cells #[.int .i64 k,.int .i64 s,.bool on,.string ⟨c.toArray⟩,.int .i64 sh,.int .i64 pr,.int .i64 si,.string ⟨st.toArray⟩,.int .u64 sum,.slice ta tt.length tc] 29)
 rw [World.size_alloc,World.size_alloc] at FB
 replace FB:=hZq FB
 clear b0 b1 b2
 clear hv1 hv2 hvt
 go_enter Tryz.func3,Tryz.ntmps3
 obtain⟨⟨CAc0,CAc1,CAc2⟩,⟨CAf0,CAf1,CAf2⟩⟩:=blk3 CA.out
 go_wp2_with fail
 clear CAc0 CAc1 CAc2 CAf0 CAf1 CAf2
 refine (clfew_eq VA.out n1 o1 H1).mono ?_
 rintro e w4 ⟨rfl,b4⟩
 replace CA:=hZq (upQ CA.out b4)
 replace CB:=hZq (upQ CB.out b4)
 replace FB:=hZq (upQ FB.out b4)
 replace VA:=hZq (VA.out.later b4)
 replace VB:=hZq (VB.out.later b4)
 replace VT:=hZq (VT.out.later b4)
 replace HB:=hZq (below2Z HB.out b4)
 clear b4
 obtain⟨⟨CBc0,CBc1,CBc2⟩,⟨CBf0,CBf1,CBf2⟩⟩:=blk3 CB.out
 go_wp2_with fail
 clear CBc0 CBc1 CBc2 CBf0 CBf1 CBf2
 refine (clfew_eq VB.out n2 o2 H2).mono ?_
 rintro e w5 ⟨rfl,b5⟩
 replace CA:=hZq (upQ CA.out b5)
 replace CB:=hZq (upQ CB.out b5)
 replace FB:=hZq (upQ FB.out b5)
 replace VA:=hZq (VA.out.later b5)
 replace VB:=hZq (VB.out.later b5)
 replace VT:=hZq (VT.out.later b5)
 replace HB:=hZq (below2Z HB.out b5)
 clear b5
 obtain⟨⟨FBc0,FBc1,FBc2,FBc3,FBc4,FBc5,FBc6,FBc7,FBc8,FBc9⟩,⟨FBf0,FBf1,FBf2,FBf3,FBf4,FBf5,FBf6,FBf7,FBf8,FBf9⟩⟩:=blk10 FB.out
 go_wp2_with fail
 clear FBc0 FBc1 FBc2 FBc3 FBc4 FBc5 FBc6 FBc7 FBc8 FBc9 FBf0 FBf1 FBf2 FBf3 FBf4 FBf5 FBf6 FBf7 FBf8 FBf9
 refine (fewf_eq VT.out k s on c sh pr si st sum hM.1 hM.2.1 H3).mono ?_
 rintro e w6 ⟨rfl,b6⟩
 replace CA:=hZq (upQ CA.out b6)
 replace CB:=hZq (upQ CB.out b6)
 replace FB:=hZq (upQ FB.out b6)
 replace VA:=hZq (VA.out.later b6)
 replace VB:=hZq (VB.out.later b6)
 replace VT:=hZq (VT.out.later b6)
 replace HB:=hZq (below2Z HB.out b6)
 clear b6
 go_wp2_with fail
 refine (live19 _).mono ?_
 rintro e w7 ⟨rfl,b7⟩
 replace CA:=hZq (upQ CA.out b7)
 replace CB:=hZq (upQ CB.out b7)
 replace FB:=hZq (upQ FB.out b7)
 replace VA:=hZq (VA.out.later b7)
 replace VB:=hZq (VB.out.later b7)
 replace VT:=hZq (VT.out.later b7)
 replace HB:=hZq (below2Z HB.out b7)
 clear b7
 go_wp2_with fail
 go_ret
 exact⟨rfl,HB.out⟩

theorem fewF_len {f:Frm} (h:fewF f=true):f.t.length≤1000:=by
 unfold fewF at h
 simp only [Bool.and_eq_true,decide_eq_true_eq] at h
 exact fewT_len h.1

theorem clf_4 {w:World} {v1 v2 vt:Value} {t1 t2:List Row} {k s sh pr si:Int} {on:Bool} {c st:List UInt8} {sum:Nat} {tt:List Row} (hv1:Tab w v1 t1) (n1:Int) (o1:Bool) (hv2:Tab w v2 t2) (n2:Int) (o2:Bool) (hvt:Tab w vt tt) (hM:c.length≤maxLen∧st.length≤maxLen∧sum < 18446744073709551616∧(Lit.int .i64 k).wf=true) (H1:Hid (fewT t1=true)) (H2:Hid (fewT t2=true)) (H3:Hid (fewF ⟨k,s,on,c,⟨sh,pr,si,st⟩,sum,tt⟩=true)) {l:List UInt8} {r:Bool} (HK:Hid (clAsk ⟨t1,n1,o1⟩=(l,r))) {t3:List Row} {n3:Int} {o3:Bool} (HFD:Hid (clFeed ⟨t1,n1,o1⟩ ⟨k,s,on,c,⟨sh,pr,si,st⟩,sum,tt⟩=⟨t3,n3,o3⟩)) {m q:Bool} (HMY:Hid (clMay ⟨t1,n1,o1⟩=m)) (HSM:Hid (clSame ⟨t1,n1,o1⟩ ⟨t2,n2,o2⟩=q)) :
  Calls Tryz.prog 3 #[.agg #[v1,.int .i64 n1,.bool o1],.agg #[v2,.int .i64 n2,.bool o2],.agg #[.int .i64 k,.int .i64 s,.bool on,.string ⟨c.toArray⟩,.int .i64 sh,.int .i64 pr,.int .i64 si,.string ⟨st.toArray⟩,.int .u64 sum,vt]] w fun e w' => e=.returned (.bool true)∧Below w.heap.size w w':=by
 have hsA:=fewT_short H1.out
 have hlA:=fewT_len H1.out
 obtain⟨s1,m1,m2⟩:=fewF_get H3.out
 simp only at s1 m1 m2
 have hsF:=hZq s1
 have hlF:=hZq (fewF_len H3.out)
 clear s1
 obtain⟨va,ca,rfl,-⟩:=hv1.open'
 obtain⟨vb,cb,rfl,-⟩:=hv2.open'
 obtain⟨ta,tc,rfl,-⟩:=hvt.open'
 have b0:=bl_newZ w (.cells #[.slice va t1.length ca,.int .i64 n1,.bool o1] 24)
 have b1:=bl_newZ (w.alloc (.cells #[.slice va t1.length ca,.int .i64 n1,.bool o1] 24)) (.cells #[.slice vb t2.length cb,.int .i64 n2,.bool o2] 24)
 have b2:=bl_newZ ((w.alloc (.cells #[.slice va t1.length ca,.int .i64 n1,.bool o1] 24)).alloc (.cells #[.slice vb t2.length cb,.int .i64 n2,.bool o2] 24)) (.cells #[.int .i64 k,.int .i64 s,.bool on,.string ⟨c.toArray⟩,.int .i64 sh,.int .i64 pr,.int .i64 si,.string ⟨st.toArray⟩,.int .u64 sum,.slice ta tt.length tc] 29)
 have HB:=hZq (below2Z (below2Z b0 b1) b2)
 have VA:=hZq (((hv1.later b0).later b1).later b2)
 have VB:=hZq (((hv2.later b0).later b1).later b2)
 have VT:=hZq (((hvt.later b0).later b1).later b2)
 have CA:=newQ w (.cells #[.slice va t1.length ca,.int .i64 n1,.bool o1] 24)
 replace CA:=upQ CA b1
 replace CA:=upQ CA b2
 replace CA:=hZq CA
 have CB:=newQ (w.alloc (.cells #[.slice va t1.length ca,.int .i64 n1,.bool o1] 24)) (.cells #[.slice vb t2.length cb,.int .i64 n2,.bool o2] 24)
 rw [World.size_alloc] at CB
 replace CB:=upQ CB b2
 replace CB:=hZq CB
 have FB:=newQ ((w.alloc (.cells #[.slice va t1.length ca,.int .i64 n1,.bool o1] 24)).alloc (.cells #[.slice vb t2.length cb,.int .i64 n2,.bool o2] 24)) (.cells #[.int .i64 k,.int .i64 s,.bool on,.string ⟨c.toArray⟩,.int .i64 sh,.int .i64 pr,.int .i64 si,.string ⟨st.toArray⟩,.int .u64 sum,.slice ta tt.length tc] 29)
 rw [World.size_alloc,World.size_alloc] at FB
 replace FB:=hZq FB
 clear b0 b1 b2
 clear hv1 hv2 hvt
 go_enter Tryz.func3,Tryz.ntmps3
 obtain⟨⟨CAc0,CAc1,CAc2⟩,⟨CAf0,CAf1,CAf2⟩⟩:=blk3 CA.out
 go_wp2_with fail
 clear CAc0 CAc1 CAc2 CAf0 CAf1 CAf2
 refine (clfew_eq VA.out n1 o1 H1).mono ?_
 rintro e w4 ⟨rfl,b4⟩
 replace CA:=hZq (upQ CA.out b4)
 replace CB:=hZq (upQ CB.out b4)
 replace FB:=hZq (upQ FB.out b4)
 replace VA:=hZq (VA.out.later b4)
 replace VB:=hZq (VB.out.later b4)
 replace VT:=hZq (VT.out.later b4)
 replace HB:=hZq (below2Z HB.out b4)
 clear b4
 obtain⟨⟨CBc0,CBc1,CBc2⟩,⟨CBf0,CBf1,CBf2⟩⟩:=blk3 CB.out
 go_wp2_with fail
 clear CBc0 CBc1 CBc2 CBf0 CBf1 CBf2
 refine (clfew_eq VB.out n2 o2 H2).mono ?_
 rintro e w5 ⟨rfl,b5⟩
 replace CA:=hZq (upQ CA.out b5)
 replace CB:=hZq (upQ CB.out b5)
 replace FB:=hZq (upQ FB.out b5)
 replace VA:=hZq (VA.out.later b5)
 replace VB:=hZq (VB.out.later b5)
 replace VT:=hZq (VT.out.later b5)
 replace HB:=hZq (below2Z HB.out b5)
 clear b5
 obtain⟨⟨FBc0,FBc1,FBc2,FBc3,FBc4,FBc5,FBc6,FBc7,FBc8,FBc9⟩,⟨FBf0,FBf1,FBf2,FBf3,FBf4,FBf5,FBf6,FBf7,FBf8,FBf9⟩⟩:=blk10 FB.out
 go_wp2_with fail
 clear FBc0 FBc1 FBc2 FBc3 FBc4 FBc5 FBc6 FBc7 FBc8 FBc9 FBf0 FBf1 FBf2 FBf3 FBf4 FBf5 FBf6 FBf7 FBf8 FBf9
 refine (fewf_eq VT.out k s on c sh pr si st sum hM.1 hM.2.1 H3).mono ?_
 rintro e w6 ⟨rfl,b6⟩
 replace CA:=hZq (upQ CA.out b6)
 replace CB:=hZq (upQ CB.out b6)
 replace FB:=hZq (upQ FB.out b6)
 replace VA:=hZq (VA.out.later b6)
 replace VB:=hZq (VB.out.later b6)
 replace VT:=hZq (VT.out.later b6)
 replace HB:=hZq (below2Z HB.out b6)
 clear b6
 obtain⟨⟨CAc0,CAc1,CAc2⟩,⟨CAf0,CAf1,CAf2⟩⟩:=blk3 CA.out
 go_wp2_with fail
 clear CAc0 CAc1 CAc2 CAf0 CAf1 CAf2
 refine (clask_any VA.out n1 o1 hsA HK).mono ?_
 rintro e w7 ⟨rfl,b7⟩
 replace CA:=hZq (upQ CA.out b7)
 replace CB:=hZq (upQ CB.out b7)
 replace FB:=hZq (upQ FB.out b7)
 replace VA:=hZq (VA.out.later b7)
 replace VB:=hZq (VB.out.later b7)
 replace VT:=hZq (VT.out.later b7)
 replace HB:=hZq (below2Z HB.out b7)
 clear b7
 obtain⟨⟨CAc0,CAc1,CAc2⟩,⟨CAf0,CAf1,CAf2⟩⟩:=blk3 CA.out
 go_wp2_with fail
 clear CAc0 CAc1 CAc2 CAf0 CAf1 CAf2
 refine (rclask_any VA.out n1 o1 hsA HK).mono ?_
 rintro e w8 ⟨rfl,b8⟩
 replace CA:=hZq (upQ CA.out b8)
 replace CB:=hZq (upQ CB.out b8)
 replace FB:=hZq (upQ FB.out b8)
 replace VA:=hZq (VA.out.later b8)
 replace VB:=hZq (VB.out.later b8)
 replace VT:=hZq (VT.out.later b8)
 replace HB:=hZq (below2Z HB.out b8)
 clear b8
 go_upto_region 5 with fail
 obtain⟨BS,hBS⟩ : ∃ BS:List (Nat × List Value),BS=[(w.heap.size,[.slice va t1.length ca,.int .i64 n1,.bool o1]),(w.heap.size+1,[.slice vb t2.length cb,.int .i64 n2,.bool o2]),(w.heap.size+1+1,[.int .i64 k,.int .i64 s,.bool on,.string ⟨c.toArray⟩,.int .i64 sh,.int .i64 pr,.int .i64 si,.string ⟨st.toArray⟩,.int .u64 sum,.slice ta tt.length tc])]:=⟨_,rfl⟩
 have D0:=hZq (show heldB w8 BS from by rw [hBS]; exact heldB_cons (cellsAt_block CA.out) (heldB_cons (cellsAt_block CB.out) (heldB_cons (cellsAt_block FB.out) (heldB_nil _))))
 have hq0:∀ X,heldB X BS→X.cell? ⟨w.heap.size,0,none⟩=some (.slice va t1.length ca):=fun X hx => heldB_get (vs:=[.slice va t1.length ca,.int .i64 n1,.bool o1]) hx (by rw [hBS]; simp) rfl
 have hq1:∀ X,heldB X BS→X.cell? ⟨w.heap.size,1,none⟩=some (.int .i64 n1):=fun X hx => heldB_get (vs:=[.slice va t1.length ca,.int .i64 n1,.bool o1]) hx (by rw [hBS]; simp) rfl
 have hq2:∀ X,heldB X BS→X.cell? ⟨w.heap.size,2,none⟩=some (.bool o1):=fun X hx => heldB_get (vs:=[.slice va t1.length ca,.int .i64 n1,.bool o1]) hx (by rw [hBS]; simp) rfl
 have hq3:∀ X,heldB X BS→X.cell? ⟨w.heap.size+1,0,none⟩=some (.slice vb t2.length cb):=fun X hx => heldB_get (vs:=[.slice vb t2.length cb,.int .i64 n2,.bool o2]) hx (by rw [hBS]; simp) rfl
 have hq4:∀ X,heldB X BS→X.cell? ⟨w.heap.size+1,1,none⟩=some (.int .i64 n2):=fun X hx => heldB_get (vs:=[.slice vb t2.length cb,.int .i64 n2,.bool o2]) hx (by rw [hBS]; simp) rfl
 have hq5:∀ X,heldB X BS→X.cell? ⟨w.heap.size+1,2,none⟩=some (.bool o2):=fun X hx => heldB_get (vs:=[.slice vb t2.length cb,.int .i64 n2,.bool o2]) hx (by rw [hBS]; simp) rfl
 have hq6:∀ X,heldB X BS→X.cell? ⟨w.heap.size+1+1,0,none⟩=some (.int .i64 k):=fun X hx => heldB_get (vs:=[.int .i64 k,.int .i64 s,.bool on,.string ⟨c.toArray⟩,.int .i64 sh,.int .i64 pr,.int .i64 si,.string ⟨st.toArray⟩,.int .u64 sum,.slice ta tt.length tc]) hx (by rw [hBS]; simp) rfl
 have hq7:∀ X,heldB X BS→X.cell? ⟨w.heap.size+1+1,1,none⟩=some (.int .i64 s):=fun X hx => heldB_get (vs:=[.int .i64 k,.int .i64 s,.bool on,.string ⟨c.toArray⟩,.int .i64 sh,.int .i64 pr,.int .i64 si,.string ⟨st.toArray⟩,.int .u64 sum,.slice ta tt.length tc]) hx (by rw [hBS]; simp) rfl
 have hq8:∀ X,heldB X BS→X.cell? ⟨w.heap.size+1+1,2,none⟩=some (.bool on):=fun X hx => heldB_get (vs:=[.int .i64 k,.int .i64 s,.bool on,.string ⟨c.toArray⟩,.int .i64 sh,.int .i64 pr,.int .i64 si,.string ⟨st.toArray⟩,.int .u64 sum,.slice ta tt.length tc]) hx (by rw [hBS]; simp) rfl
 have hq9:∀ X,heldB X BS→X.cell? ⟨w.heap.size+1+1,3,none⟩=some (.string ⟨c.toArray⟩):=fun X hx => heldB_get (vs:=[.int .i64 k,.int .i64 s,.bool on,.string ⟨c.toArray⟩,.int .i64 sh,.int .i64 pr,.int .i64 si,.string ⟨st.toArray⟩,.int .u64 sum,.slice ta tt.length tc]) hx (by rw [hBS]; simp) rfl
 have hq10:∀ X,heldB X BS→X.cell? ⟨w.heap.size+1+1,4,none⟩=some (.int .i64 sh):=fun X hx => heldB_get (vs:=[.int .i64 k,.int .i64 s,.bool on,.string ⟨c.toArray⟩,.int .i64 sh,.int .i64 pr,.int .i64 si,.string ⟨st.toArray⟩,.int .u64 sum,.slice ta tt.length tc]) hx (by rw [hBS]; simp) rfl
 have hq11:∀ X,heldB X BS→X.cell? ⟨w.heap.size+1+1,5,none⟩=some (.int .i64 pr):=fun X hx => heldB_get (vs:=[.int .i64 k,.int .i64 s,.bool on,.string ⟨c.toArray⟩,.int .i64 sh,.int .i64 pr,.int .i64 si,.string ⟨st.toArray⟩,.int .u64 sum,.slice ta tt.length tc]) hx (by rw [hBS]; simp) rfl
 have hq12:∀ X,heldB X BS→X.cell? ⟨w.heap.size+1+1,6,none⟩=some (.int .i64 si):=fun X hx => heldB_get (vs:=[.int .i64 k,.int .i64 s,.bool on,.string ⟨c.toArray⟩,.int .i64 sh,.int .i64 pr,.int .i64 si,.string ⟨st.toArray⟩,.int .u64 sum,.slice ta tt.length tc]) hx (by rw [hBS]; simp) rfl
 have hq13:∀ X,heldB X BS→X.cell? ⟨w.heap.size+1+1,7,none⟩=some (.string ⟨st.toArray⟩):=fun X hx => heldB_get (vs:=[.int .i64 k,.int .i64 s,.bool on,.string ⟨c.toArray⟩,.int .i64 sh,.int .i64 pr,.int .i64 si,.string ⟨st.toArray⟩,.int .u64 sum,.slice ta tt.length tc]) hx (by rw [hBS]; simp) rfl
 have hq14:∀ X,heldB X BS→X.cell? ⟨w.heap.size+1+1,8,none⟩=some (.int .u64 sum):=fun X hx => heldB_get (vs:=[.int .i64 k,.int .i64 s,.bool on,.string ⟨c.toArray⟩,.int .i64 sh,.int .i64 pr,.int .i64 si,.string ⟨st.toArray⟩,.int .u64 sum,.slice ta tt.length tc]) hx (by rw [hBS]; simp) rfl
 have hq15:∀ X,heldB X BS→X.cell? ⟨w.heap.size+1+1,9,none⟩=some (.slice ta tt.length tc):=fun X hx => heldB_get (vs:=[.int .i64 k,.int .i64 s,.bool on,.string ⟨c.toArray⟩,.int .i64 sh,.int .i64 pr,.int .i64 si,.string ⟨st.toArray⟩,.int .u64 sum,.slice ta tt.length tc]) hx (by rw [hBS]; simp) rfl
 clear hBS
 have K0:Hid (Below w8.heap.size w8 w8.drew):=hZq (Below.refl _ _).drew
 refine wp_region_held_drew (S:=(fun X => heldB X BS)) (by kernel_rfl) ?_ (fun hHeld => ?_)
 ·exact heldB_up K0.out D0.out
 generalize w8.drew=z0 at K0 hHeld ⊢
 refine wpAnyH_take (i:=0) (oi:=⟨some 35,.load 24 (.tmp 3),24,"law.go:40",#[],none⟩) (v:=?_) rfl (by as_aux_lemma => kernel_rfl) (by as_aux_lemma => kernel_rfl) (by as_aux_lemma => kernel_rfl) (fun _ _ _ h => h) (Or.inl ⟨by rfl,?_⟩) (by assumption) ?_
 rotate_left
 ·intro w' hSw
  try dsimp only at hSw
  go_simp
  try with_reducible rfl
 try simp only [Act.put,List.setIfInBounds_toArray,List.set_cons_zero,List.set_cons_succ]
 refine wpAnyH_take (i:=1) (oi:=⟨some 36,.load 29 (.tmp 5),29,"law.go:40",#[],none⟩) (v:=?_) rfl (by as_aux_lemma => kernel_rfl) (by as_aux_lemma => kernel_rfl) (by as_aux_lemma => kernel_rfl) (fun _ _ _ h => h) (Or.inl ⟨by rfl,?_⟩) (by assumption) ?_
 rotate_left
 ·intro w' hSw
  try dsimp only at hSw
  go_simp
  try with_reducible rfl
 try simp only [Act.put,List.setIfInBounds_toArray,List.set_cons_zero,List.set_cons_succ]
 refine wpAnyH_take (i:=3) (oi:=⟨some 38,.load 24 (.tmp 3),24,"law.go:40",#[],none⟩) (v:=?_) rfl (by as_aux_lemma => kernel_rfl) (by as_aux_lemma => kernel_rfl) (by as_aux_lemma => kernel_rfl) (fun _ _ _ h => h) (Or.inl ⟨by rfl,?_⟩) (by assumption) ?_
 rotate_left
 ·intro w' hSw
  try dsimp only at hSw
  go_simp
  try with_reducible rfl
 try simp only [Act.put,List.setIfInBounds_toArray,List.set_cons_zero,List.set_cons_succ]
 refine wpAnyH_take (i:=4) (oi:=⟨some 39,.load 29 (.tmp 5),29,"law.go:40",#[],none⟩) (v:=?_) rfl (by as_aux_lemma => kernel_rfl) (by as_aux_lemma => kernel_rfl) (by as_aux_lemma => kernel_rfl) (fun _ _ _ h => h) (Or.inl ⟨by rfl,?_⟩) (by assumption) ?_
 rotate_left
 ·intro w' hSw
  try dsimp only at hSw
  go_simp
  try with_reducible rfl
 try simp only [Act.put,List.setIfInBounds_toArray,List.set_cons_zero,List.set_cons_succ]
 refine wpAnyH_ready (rs:=[2]) (by as_aux_lemma => kernel_rfl) (by simp) ?_
 refine AllReadyH.cons (o:=⟨some 37,.call { callee:=.value (.func 18),args:=#[.tmp 35,.tmp 36],argTypes:=#[24,29] },24,"law.go:40",#[⟨0,.data⟩,⟨1,.data⟩],none⟩) rfl (fun Kx hK => ?_) AllReadyH.nil
 go_simp
 refine (clfeed_any (VA.out.later (K0.out)) (VT.out.later (K0.out)) n1 o1 hsA hsF.out m1 m2 hM.2.2.2 hlA hlF.out HFD).mono ?_
 rintro e z1001 ⟨uP,rfl,hP,bz1001⟩
 have K1001:=hZq (below2Z K0.out bz1001)
 have D1001:=hZq (heldB_up K1001.out D0.out)
 replace hP:=CT.tab hP (VA.out.later (K1001.out)) (VT.out.later (K1001.out))
 obtain⟨uPa,uPc,rfl,-⟩:=hP.open'
 have TP:=hZq hP
 clear hP
 clear bz1001
 go_wp2_with fail
 refine hK.out _ _ ?_ (fun hHeld2 => ?_)
 ·exact D1001.out
 clear hK Kx hHeld
 have hHeld:=hHeld2
 clear hHeld2
 try simp only [Act.put,List.setIfInBounds_toArray,List.set_cons_zero,List.set_cons_succ]
 refine wpAnyH_ready (rs:=[5]) (by as_aux_lemma => kernel_rfl) (by simp) ?_
 refine AllReadyH.cons (o:=⟨some 40,.call { callee:=.value (.func 19),args:=#[.tmp 38,.tmp 39],argTypes:=#[24,29] },24,"law.go:40",#[⟨3,.data⟩,⟨4,.data⟩,⟨2,.chain⟩],none⟩) rfl (fun Kx hK => ?_) AllReadyH.nil
 go_simp
 refine (rclfeed_any (VA.out.later (K1001.out)) (VT.out.later (K1001.out)) n1 o1 hsA hsF.out m1 m2 hlA HFD).mono ?_
 rintro e z1002 ⟨uQ,rfl,hQ,bz1002⟩
 have K1002:=hZq (below2Z K1001.out bz1002)
 have D1002:=hZq (heldB_up K1002.out D0.out)
 replace TP:=hZq (Tab.later (TP.out) bz1002)
 replace hQ:=CT.tab hQ (VA.out.later (K1002.out)) (VT.out.later (K1002.out))
 obtain⟨uQa,uQc,rfl,-⟩:=hQ.open'
 have TQ:=hZq hQ
 clear hQ
 clear bz1002
 go_wp2_with fail
 refine hK.out _ _ ?_ (fun hHeld2 => ?_)
 ·exact D1002.out
 clear hK Kx hHeld
 have hHeld:=hHeld2
 clear hHeld2
 try simp only [Act.put,List.setIfInBounds_toArray,List.set_cons_zero,List.set_cons_succ]
 refine wpAnyH_ready (rs:=[6]) (by as_aux_lemma => kernel_rfl) (by simp) ?_
 refine AllReadyH.cons (o:=⟨some 41,.call { callee:=.value (.func 17),args:=#[.tmp 37,.tmp 40],argTypes:=#[24,24] },4,"law.go:40",#[⟨2,.data⟩,⟨5,.data⟩,⟨5,.chain⟩],none⟩) rfl (fun Kx hK => ?_) AllReadyH.nil
 go_simp
 refine (rclsame_eq TP.out TQ.out n3 n3 o3 o3 (hZq (clSame_self _))).mono ?_
 rintro e z1003 ⟨rfl,bz1003⟩
 have K1003:=hZq (below2Z K1002.out bz1003)
 have D1003:=hZq (heldB_up K1003.out D0.out)
 replace TP:=hZq (Tab.later (TP.out) bz1003)
 replace TQ:=hZq (Tab.later (TQ.out) bz1003)
 clear bz1003
 go_wp2_with fail
 refine hK.out _ _ ?_ (fun hHeld2 => ?_)
 ·exact D1003.out
 clear hK Kx hHeld
 have hHeld:=hHeld2
 clear hHeld2
 try simp only [Act.put,List.setIfInBounds_toArray,List.set_cons_zero,List.set_cons_succ]
 refine wpAnyH_take (i:=7) (oi:=⟨some 42,.move (.tmp 41),4,"law.go:40",#[⟨6,.data⟩,⟨6,.chain⟩],none⟩) (v:=?_) rfl (by as_aux_lemma => kernel_rfl) (by as_aux_lemma => kernel_rfl) (by as_aux_lemma => kernel_rfl) (fun _ _ _ h => h) (Or.inl ⟨by rfl,?_⟩) (by assumption) ?_
 rotate_left
 ·intro w' hSw
  try dsimp only at hSw
  go_simp
  try with_reducible rfl
 try simp only [Act.put,List.setIfInBounds_toArray,List.set_cons_zero,List.set_cons_succ]
 refine wpAnyH_take (i:=9) (oi:=⟨some 44,.build 24 #[],24,"law.go:40",#[⟨7,.guard⟩],some (7,true)⟩) (v:=?_) rfl (by as_aux_lemma => kernel_rfl) (by as_aux_lemma => kernel_rfl) (by as_aux_lemma => kernel_rfl) (fun _ _ _ h => h) (Or.inl ⟨by rfl,?_⟩) (by assumption) ?_
 rotate_left
 ·intro w' hSw
  try dsimp only at hSw
  go_simp
  try with_reducible rfl
 try simp only [Act.put,List.setIfInBounds_toArray,List.set_cons_zero,List.set_cons_succ]
 refine wpAnyH_ready (rs:=[8]) (by as_aux_lemma => kernel_rfl) (by simp) ?_
 refine AllReadyH.cons (o:=⟨some 43,.call { callee:=.value (.func 20),args:=#[],argTypes:=#[] },24,"law.go:40",#[⟨7,.chain⟩,⟨7,.guard⟩],some (7,true)⟩) rfl (fun Kx hK => ?_) AllReadyH.nil
 go_simp
 refine (clnew_any _).mono ?_
 rintro e z1004 ⟨rfl,bz1004⟩
 have K1004:=hZq (below2Z K1003.out bz1004)
 have D1004:=hZq (heldB_up K1004.out D0.out)
 replace TP:=hZq (Tab.later (TP.out) bz1004)
 replace TQ:=hZq (Tab.later (TQ.out) bz1004)
 clear bz1004
 go_wp2_with fail
 refine hK.out _ _ ?_ (fun hHeld2 => ?_)
 ·exact D1004.out
 clear hK Kx hHeld
 have hHeld:=hHeld2
 clear hHeld2
 try simp only [Act.put,List.setIfInBounds_toArray,List.set_cons_zero,List.set_cons_succ]
 refine wpAnyH_ready (rs:=[10]) (by as_aux_lemma => kernel_rfl) (by simp) ?_
 refine AllReadyH.cons (o:=⟨some 45,.call { callee:=.value (.func 17),args:=#[.tmp 43,.tmp 44],argTypes:=#[24,24] },4,"law.go:40",#[⟨8,.data⟩,⟨9,.data⟩,⟨8,.chain⟩,⟨7,.guard⟩],some (7,true)⟩) rfl (fun Kx hK => ?_) AllReadyH.nil
 go_simp
 refine (rclsame_eq (tab_nilC _) (tab_nilC _) 0 0 false false (hZq (clSame_self ⟨[],0,false⟩))).mono ?_
 rintro e z1005 ⟨rfl,bz1005⟩
 have K1005:=hZq (below2Z K1004.out bz1005)
 have D1005:=hZq (heldB_up K1005.out D0.out)
 replace TP:=hZq (Tab.later (TP.out) bz1005)
 replace TQ:=hZq (Tab.later (TQ.out) bz1005)
 clear bz1005
 go_wp2_with fail
 refine hK.out _ _ ?_ (fun hHeld2 => ?_)
 ·exact D1005.out
 clear hK Kx hHeld
 have hHeld:=hHeld2
 clear hHeld2
 try simp only [Act.put,List.setIfInBounds_toArray,List.set_cons_zero,List.set_cons_succ]
 refine wpAnyH_take (i:=11) (oi:=⟨some 46,.pick (.tmp 42) (.tmp 45) (.const (.bool false)),4,"law.go:40",#[⟨7,.data⟩,⟨10,.data⟩],none⟩) (v:=?_) rfl (by as_aux_lemma => kernel_rfl) (by as_aux_lemma => kernel_rfl) (by as_aux_lemma => kernel_rfl) (fun _ _ _ h => h) (Or.inl ⟨by rfl,?_⟩) (by assumption) ?_
 rotate_left
 ·intro w' hSw
  try dsimp only at hSw
  go_simp
  try with_reducible rfl
 try simp only [Act.put,List.setIfInBounds_toArray,List.set_cons_zero,List.set_cons_succ]
 refine wpAnyH_take (i:=12) (oi:=⟨some 47,.move (.tmp 46),4,"law.go:40",#[⟨11,.data⟩,⟨10,.chain⟩],none⟩) (v:=?_) rfl (by as_aux_lemma => kernel_rfl) (by as_aux_lemma => kernel_rfl) (by as_aux_lemma => kernel_rfl) (fun _ _ _ h => h) (Or.inl ⟨by rfl,?_⟩) (by assumption) ?_
 rotate_left
 ·intro w' hSw
  try dsimp only at hSw
  go_simp
  try with_reducible rfl
 try simp only [Act.put,List.setIfInBounds_toArray,List.set_cons_zero,List.set_cons_succ]
 refine wpAnyH_take (i:=13) (oi:=⟨some 48,.load 24 (.tmp 3),24,"law.go:40",#[⟨12,.guard⟩],some (12,true)⟩) (v:=?_) rfl (by as_aux_lemma => kernel_rfl) (by as_aux_lemma => kernel_rfl) (by as_aux_lemma => kernel_rfl) (fun _ _ _ h => h) (Or.inl ⟨by rfl,?_⟩) (by assumption) ?_
 rotate_left
 ·intro w' hSw
  try dsimp only at hSw
  go_simp
  try with_reducible rfl
 try simp only [Act.put,List.setIfInBounds_toArray,List.set_cons_zero,List.set_cons_succ]
 refine wpAnyH_take (i:=15) (oi:=⟨some 50,.load 24 (.tmp 3),24,"law.go:40",#[⟨12,.guard⟩],some (12,true)⟩) (v:=?_) rfl (by as_aux_lemma => kernel_rfl) (by as_aux_lemma => kernel_rfl) (by as_aux_lemma => kernel_rfl) (fun _ _ _ h => h) (Or.inl ⟨by rfl,?_⟩) (by assumption) ?_
 rotate_left
 ·intro w' hSw
  try dsimp only at hSw
  go_simp
  try with_reducible rfl
 try simp only [Act.put,List.setIfInBounds_toArray,List.set_cons_zero,List.set_cons_succ]
 refine wpAnyH_ready (rs:=[14]) (by as_aux_lemma => kernel_rfl) (by simp) ?_
 refine AllReadyH.cons (o:=⟨some 49,.call { callee:=.value (.func 21),args:=#[.tmp 48],argTypes:=#[24] },4,"law.go:40",#[⟨13,.data⟩,⟨12,.chain⟩,⟨12,.guard⟩],some (12,true)⟩) rfl (fun Kx hK => ?_) AllReadyH.nil
 go_simp
 refine (clmay_eq (VA.out.later (K1005.out)) hsA n1 o1 HMY).mono ?_
 rintro e z1006 ⟨rfl,bz1006⟩
 have K1006:=hZq (below2Z K1005.out bz1006)
 have D1006:=hZq (heldB_up K1006.out D0.out)
 replace TP:=hZq (Tab.later (TP.out) bz1006)
 replace TQ:=hZq (Tab.later (TQ.out) bz1006)
 clear bz1006
 go_wp2_with fail
 refine hK.out _ _ ?_ (fun hHeld2 => ?_)
 ·exact D1006.out
 clear hK Kx hHeld
 have hHeld:=hHeld2
 clear hHeld2
 try simp only [Act.put,List.setIfInBounds_toArray,List.set_cons_zero,List.set_cons_succ]
 refine wpAnyH_ready (rs:=[16]) (by as_aux_lemma => kernel_rfl) (by simp) ?_
 refine AllReadyH.cons (o:=⟨some 51,.call { callee:=.value (.func 22),args:=#[.tmp 50],argTypes:=#[24] },4,"law.go:40",#[⟨15,.data⟩,⟨14,.chain⟩,⟨12,.guard⟩],some (12,true)⟩) rfl (fun Kx hK => ?_) AllReadyH.nil
 go_simp
 refine (rclmay_eq (VA.out.later (K1006.out)) hsA n1 o1 HMY).mono ?_
 rintro e z1007 ⟨rfl,bz1007⟩
 have K1007:=hZq (below2Z K1006.out bz1007)
 have D1007:=hZq (heldB_up K1007.out D0.out)
 replace TP:=hZq (Tab.later (TP.out) bz1007)
 replace TQ:=hZq (Tab.later (TQ.out) bz1007)
 clear bz1007
 go_wp2_with fail
 refine hK.out _ _ ?_ (fun hHeld2 => ?_)
 ·exact D1007.out
 clear hK Kx hHeld
 have hHeld:=hHeld2
 clear hHeld2
 try simp only [Act.put,List.setIfInBounds_toArray,List.set_cons_zero,List.set_cons_succ]
 refine wpAnyH_take (i:=17) (oi:=⟨some 52,.binOp .eql 4 (.tmp 49) (.tmp 51) 4,4,"law.go:40",#[⟨14,.data⟩,⟨16,.data⟩,⟨12,.guard⟩],some (12,true)⟩) (v:=?_) rfl (by as_aux_lemma => kernel_rfl) (by as_aux_lemma => kernel_rfl) (by as_aux_lemma => kernel_rfl) (fun _ _ _ h => h) (Or.inl ⟨by rfl,?_⟩) (by assumption) ?_
 rotate_left
 ·intro w' hSw
  try dsimp only at hSw
  go_simp
  try with_reducible rfl
 try simp only [Act.put,List.setIfInBounds_toArray,List.set_cons_zero,List.set_cons_succ]
 refine wpAnyH_take (i:=18) (oi:=⟨some 53,.pick (.tmp 47) (.tmp 52) (.const (.bool false)),4,"law.go:40",#[⟨12,.data⟩,⟨17,.data⟩],none⟩) (v:=?_) rfl (by as_aux_lemma => kernel_rfl) (by as_aux_lemma => kernel_rfl) (by as_aux_lemma => kernel_rfl) (fun _ _ _ h => h) (Or.inl ⟨by rfl,?_⟩) (by assumption) ?_
 rotate_left
 ·intro w' hSw
  try dsimp only at hSw
  go_simp
  try with_reducible rfl
 try simp only [Act.put,List.setIfInBounds_toArray,List.set_cons_zero,List.set_cons_succ]
 refine wpAnyH_take (i:=19) (oi:=⟨some 54,.move (.tmp 53),4,"law.go:40",#[⟨18,.data⟩,⟨16,.chain⟩],none⟩) (v:=?_) rfl (by as_aux_lemma => kernel_rfl) (by as_aux_lemma => kernel_rfl) (by as_aux_lemma => kernel_rfl) (fun _ _ _ h => h) (Or.inl ⟨by rfl,?_⟩) (by assumption) ?_
 rotate_left
 ·intro w' hSw
  try dsimp only at hSw
  go_simp
  try with_reducible rfl
 try simp only [Act.put,List.setIfInBounds_toArray,List.set_cons_zero,List.set_cons_succ]
 refine wpAnyH_take (i:=20) (oi:=⟨some 55,.load 24 (.tmp 3),24,"law.go:40",#[⟨19,.guard⟩],some (19,true)⟩) (v:=?_) rfl (by as_aux_lemma => kernel_rfl) (by as_aux_lemma => kernel_rfl) (by as_aux_lemma => kernel_rfl) (fun _ _ _ h => h) (Or.inl ⟨by rfl,?_⟩) (by assumption) ?_
 rotate_left
 ·intro w' hSw
  try dsimp only at hSw
  go_simp
  try with_reducible rfl
 try simp only [Act.put,List.setIfInBounds_toArray,List.set_cons_zero,List.set_cons_succ]
 refine wpAnyH_take (i:=21) (oi:=⟨some 56,.load 24 (.tmp 4),24,"law.go:40",#[⟨19,.guard⟩],some (19,true)⟩) (v:=?_) rfl (by as_aux_lemma => kernel_rfl) (by as_aux_lemma => kernel_rfl) (by as_aux_lemma => kernel_rfl) (fun _ _ _ h => h) (Or.inl ⟨by rfl,?_⟩) (by assumption) ?_
 rotate_left
 ·intro w' hSw
  try dsimp only at hSw
  go_simp
  try with_reducible rfl
 try simp only [Act.put,List.setIfInBounds_toArray,List.set_cons_zero,List.set_cons_succ]
 refine wpAnyH_take (i:=23) (oi:=⟨some 58,.load 24 (.tmp 3),24,"law.go:40",#[⟨19,.guard⟩],some (19,true)⟩) (v:=?_) rfl (by as_aux_lemma => kernel_rfl) (by as_aux_lemma => kernel_rfl) (by as_aux_lemma => kernel_rfl) (fun _ _ _ h => h) (Or.inl ⟨by rfl,?_⟩) (by assumption) ?_
 rotate_left
 ·intro w' hSw
  try dsimp only at hSw
  go_simp
  try with_reducible rfl
 try simp only [Act.put,List.setIfInBounds_toArray,List.set_cons_zero,List.set_cons_succ]
 refine wpAnyH_take (i:=24) (oi:=⟨some 59,.load 24 (.tmp 4),24,"law.go:40",#[⟨19,.guard⟩],some (19,true)⟩) (v:=?_) rfl (by as_aux_lemma => kernel_rfl) (by as_aux_lemma => kernel_rfl) (by as_aux_lemma => kernel_rfl) (fun _ _ _ h => h) (Or.inl ⟨by rfl,?_⟩) (by assumption) ?_
 rotate_left
 ·intro w' hSw
  try dsimp only at hSw
  go_simp
  try with_reducible rfl
 try simp only [Act.put,List.setIfInBounds_toArray,List.set_cons_zero,List.set_cons_succ]
 refine wpAnyH_ready (rs:=[22]) (by as_aux_lemma => kernel_rfl) (by simp) ?_
 refine AllReadyH.cons (o:=⟨some 57,.call { callee:=.value (.func 23),args:=#[.tmp 55,.tmp 56],argTypes:=#[24,24] },4,"law.go:40",#[⟨20,.data⟩,⟨21,.data⟩,⟨19,.chain⟩,⟨19,.guard⟩],some (19,true)⟩) rfl (fun Kx hK => ?_) AllReadyH.nil
 go_simp
 refine (clsame_eq (VA.out.later (K1007.out)) (VB.out.later (K1007.out)) n1 n2 o1 o2 HSM).mono ?_
 rintro e z1008 ⟨rfl,bz1008⟩
 have K1008:=hZq (below2Z K1007.out bz1008)
 have D1008:=hZq (heldB_up K1008.out D0.out)
 replace TP:=hZq (Tab.later (TP.out) bz1008)
 replace TQ:=hZq (Tab.later (TQ.out) bz1008)
 clear bz1008
 go_wp2_with fail
 refine hK.out _ _ ?_ (fun hHeld2 => ?_)
 ·exact D1008.out
 clear hK Kx hHeld
 have hHeld:=hHeld2
 clear hHeld2
 try simp only [Act.put,List.setIfInBounds_toArray,List.set_cons_zero,List.set_cons_succ]
 refine wpAnyH_ready (rs:=[25]) (by as_aux_lemma => kernel_rfl) (by simp) ?_
 refine AllReadyH.cons (o:=⟨some 60,.call { callee:=.value (.func 17),args:=#[.tmp 58,.tmp 59],argTypes:=#[24,24] },4,"law.go:40",#[⟨23,.data⟩,⟨24,.data⟩,⟨22,.chain⟩,⟨19,.guard⟩],some (19,true)⟩) rfl (fun Kx hK => ?_) AllReadyH.nil
 go_simp
 refine (rclsame_eq (VA.out.later (K1008.out)) (VB.out.later (K1008.out)) n1 n2 o1 o2 HSM).mono ?_
 rintro e z1009 ⟨rfl,bz1009⟩
 have K1009:=hZq (below2Z K1008.out bz1009)
 have D1009:=hZq (heldB_up K1009.out D0.out)
 replace TP:=hZq (Tab.later (TP.out) bz1009)
 replace TQ:=hZq (Tab.later (TQ.out) bz1009)
 clear bz1009
 go_wp2_with fail
 refine hK.out _ _ ?_ (fun hHeld2 => ?_)
 ·exact D1009.out
 clear hK Kx hHeld
 have hHeld:=hHeld2
 clear hHeld2
 try simp only [Act.put,List.setIfInBounds_toArray,List.set_cons_zero,List.set_cons_succ]
 refine wpAnyH_take (i:=26) (oi:=⟨some 61,.binOp .eql 4 (.tmp 57) (.tmp 60) 4,4,"law.go:40",#[⟨22,.data⟩,⟨25,.data⟩,⟨19,.guard⟩],some (19,true)⟩) (v:=?_) rfl (by as_aux_lemma => kernel_rfl) (by as_aux_lemma => kernel_rfl) (by as_aux_lemma => kernel_rfl) (fun _ _ _ h => h) (Or.inl ⟨by rfl,?_⟩) (by assumption) ?_
 rotate_left
 ·intro w' hSw
  try dsimp only at hSw
  go_simp
  try with_reducible rfl
 try simp only [Act.put,List.setIfInBounds_toArray,List.set_cons_zero,List.set_cons_succ]
 refine wpAnyH_take (i:=27) (oi:=⟨some 62,.pick (.tmp 54) (.tmp 61) (.const (.bool false)),4,"law.go:40",#[⟨19,.data⟩,⟨26,.data⟩],none⟩) (v:=?_) rfl (by as_aux_lemma => kernel_rfl) (by as_aux_lemma => kernel_rfl) (by as_aux_lemma => kernel_rfl) (fun _ _ _ h => h) (Or.inl ⟨by rfl,?_⟩) (by assumption) ?_
 rotate_left
 ·intro w' hSw
  try dsimp only at hSw
  go_simp
  try with_reducible rfl
 try simp only [Act.put,List.setIfInBounds_toArray,List.set_cons_zero,List.set_cons_succ]
 refine wpAnyH_take (i:=28) (oi:=⟨some 63,.move (.tmp 62),4,"law.go:40",#[⟨27,.data⟩,⟨25,.chain⟩],none⟩) (v:=?_) rfl (by as_aux_lemma => kernel_rfl) (by as_aux_lemma => kernel_rfl) (by as_aux_lemma => kernel_rfl) (fun _ _ _ h => h) (Or.inl ⟨by rfl,?_⟩) (by assumption) ?_
 rotate_left
 ·intro w' hSw
  try dsimp only at hSw
  go_simp
  try with_reducible rfl
 try simp only [Act.put,List.setIfInBounds_toArray,List.set_cons_zero,List.set_cons_succ]
 refine wpAnyH_take (i:=29) (oi:=⟨some 64,.move (.tmp 7),9,"law.go:40",#[⟨28,.guard⟩],some (28,true)⟩) (v:=?_) rfl (by as_aux_lemma => kernel_rfl) (by as_aux_lemma => kernel_rfl) (by as_aux_lemma => kernel_rfl) (fun _ _ _ h => h) (Or.inl ⟨by rfl,?_⟩) (by assumption) ?_
 rotate_left
 ·intro w' hSw
  try dsimp only at hSw
  go_simp
  try with_reducible rfl
 try simp only [Act.put,List.setIfInBounds_toArray,List.set_cons_zero,List.set_cons_succ]
 refine wpAnyH_take (i:=30) (oi:=⟨some 65,.move (.tmp 9),9,"law.go:40",#[⟨28,.guard⟩],some (28,true)⟩) (v:=?_) rfl (by as_aux_lemma => kernel_rfl) (by as_aux_lemma => kernel_rfl) (by as_aux_lemma => kernel_rfl) (fun _ _ _ h => h) (Or.inl ⟨by rfl,?_⟩) (by assumption) ?_
 rotate_left
 ·intro w' hSw
  try dsimp only at hSw
  go_simp
  try with_reducible rfl
 try simp only [Act.put,List.setIfInBounds_toArray,List.set_cons_zero,List.set_cons_succ]
 refine wpAnyH_take (i:=31) (oi:=⟨some 66,.binOp .eql 9 (.tmp 64) (.tmp 65) 9,4,"law.go:40",#[⟨29,.data⟩,⟨30,.data⟩,⟨28,.guard⟩],some (28,true)⟩) (v:=?_) rfl (by as_aux_lemma => kernel_rfl) (by as_aux_lemma => kernel_rfl) (by as_aux_lemma => kernel_rfl) (fun _ _ _ h => h) (Or.inl ⟨by rfl,?_⟩) (by assumption) ?_
 rotate_left
 ·intro w' hSw
  try dsimp only at hSw
  go_simp
  try with_reducible rfl
 try simp only [Act.put,List.setIfInBounds_toArray,List.set_cons_zero,List.set_cons_succ]
 refine wpAnyH_take (i:=32) (oi:=⟨some 67,.pick (.tmp 63) (.tmp 66) (.const (.bool false)),4,"law.go:40",#[⟨28,.data⟩,⟨31,.data⟩],none⟩) (v:=?_) rfl (by as_aux_lemma => kernel_rfl) (by as_aux_lemma => kernel_rfl) (by as_aux_lemma => kernel_rfl) (fun _ _ _ h => h) (Or.inl ⟨by rfl,?_⟩) (by assumption) ?_
 rotate_left
 ·intro w' hSw
  try dsimp only at hSw
  go_simp
  try with_reducible rfl
 try simp only [Act.put,List.setIfInBounds_toArray,List.set_cons_zero,List.set_cons_succ]
 refine wpAnyH_take (i:=33) (oi:=⟨some 68,.move (.tmp 67),4,"law.go:40",#[⟨32,.data⟩,⟨28,.chain⟩],none⟩) (v:=?_) rfl (by as_aux_lemma => kernel_rfl) (by as_aux_lemma => kernel_rfl) (by as_aux_lemma => kernel_rfl) (fun _ _ _ h => h) (Or.inl ⟨by rfl,?_⟩) (by assumption) ?_
 rotate_left
 ·intro w' hSw
  try dsimp only at hSw
  go_simp
  try with_reducible rfl
 try simp only [Act.put,List.setIfInBounds_toArray,List.set_cons_zero,List.set_cons_succ]
 refine wpAnyH_take (i:=34) (oi:=⟨some 69,.move (.tmp 8),4,"law.go:40",#[⟨33,.guard⟩],some (33,true)⟩) (v:=?_) rfl (by as_aux_lemma => kernel_rfl) (by as_aux_lemma => kernel_rfl) (by as_aux_lemma => kernel_rfl) (fun _ _ _ h => h) (Or.inl ⟨by rfl,?_⟩) (by assumption) ?_
 rotate_left
 ·intro w' hSw
  try dsimp only at hSw
  go_simp
  try with_reducible rfl
 try simp only [Act.put,List.setIfInBounds_toArray,List.set_cons_zero,List.set_cons_succ]
 refine wpAnyH_take (i:=35) (oi:=⟨some 70,.move (.tmp 10),4,"law.go:40",#[⟨33,.guard⟩],some (33,true)⟩) (v:=?_) rfl (by as_aux_lemma => kernel_rfl) (by as_aux_lemma => kernel_rfl) (by as_aux_lemma => kernel_rfl) (fun _ _ _ h => h) (Or.inl ⟨by rfl,?_⟩) (by assumption) ?_
 rotate_left
 ·intro w' hSw
  try dsimp only at hSw
  go_simp
  try with_reducible rfl
 try simp only [Act.put,List.setIfInBounds_toArray,List.set_cons_zero,List.set_cons_succ]
 refine wpAnyH_take (i:=36) (oi:=⟨some 71,.binOp .eql 4 (.tmp 69) (.tmp 70) 4,4,"law.go:40",#[⟨34,.data⟩,⟨35,.data⟩,⟨33,.guard⟩],some (33,true)⟩) (v:=?_) rfl (by as_aux_lemma => kernel_rfl) (by as_aux_lemma => kernel_rfl) (by as_aux_lemma => kernel_rfl) (fun _ _ _ h => h) (Or.inl ⟨by rfl,?_⟩) (by assumption) ?_
 rotate_left
 ·intro w' hSw
  try dsimp only at hSw
  go_simp
  try with_reducible rfl
 try simp only [Act.put,List.setIfInBounds_toArray,List.set_cons_zero,List.set_cons_succ]
 refine wpAnyH_take (i:=37) (oi:=⟨some 72,.pick (.tmp 68) (.tmp 71) (.const (.bool false)),4,"law.go:40",#[⟨33,.data⟩,⟨36,.data⟩],none⟩) (v:=?_) rfl (by as_aux_lemma => kernel_rfl) (by as_aux_lemma => kernel_rfl) (by as_aux_lemma => kernel_rfl) (fun _ _ _ h => h) (Or.inl ⟨by rfl,?_⟩) (by assumption) ?_
 rotate_left
 ·intro w' hSw
  try dsimp only at hSw
  go_simp
  try with_reducible rfl
 try simp only [Act.put,List.setIfInBounds_toArray,List.set_cons_zero,List.set_cons_succ]
 refine wpAnyH_take (i:=38) (oi:=⟨some 73,.move (.tmp 72),4,"law.go:40",#[⟨37,.data⟩,⟨33,.chain⟩],none⟩) (v:=?_) rfl (by as_aux_lemma => kernel_rfl) (by as_aux_lemma => kernel_rfl) (by as_aux_lemma => kernel_rfl) (fun _ _ _ h => h) (Or.inl ⟨by rfl,?_⟩) (by assumption) ?_
 rotate_left
 ·intro w' hSw
  try dsimp only at hSw
  go_simp
  try with_reducible rfl
 try simp only [Act.put,List.setIfInBounds_toArray,List.set_cons_zero,List.set_cons_succ]
 refine wpAnyH_ready (rs:=[39]) (by as_aux_lemma => kernel_rfl) (by simp) ?_
 refine AllReadyH.cons (o:=⟨some 74,.call { callee:=.value (.func 14),args:=#[],argTypes:=#[] },4,"law.go:40",#[⟨38,.chain⟩,⟨38,.guard⟩],some (38,true)⟩) rfl (fun Kx hK => ?_) AllReadyH.nil
 go_simp
 refine (live19 _).mono ?_
 rintro e z1010 ⟨rfl,bz1010⟩
 have K1010:=hZq (below2Z K1009.out bz1010)
 have D1010:=hZq (heldB_up K1010.out D0.out)
 replace TP:=hZq (Tab.later (TP.out) bz1010)
 replace TQ:=hZq (Tab.later (TQ.out) bz1010)
 clear bz1010
 go_wp2_with fail
 refine hK.out _ _ ?_ (fun hHeld2 => ?_)
 ·exact D1010.out
 clear hK Kx hHeld
 have hHeld:=hHeld2
 clear hHeld2
 try simp only [Act.put,List.setIfInBounds_toArray,List.set_cons_zero,List.set_cons_succ]
 refine wpAnyH_take (i:=40) (oi:=⟨some 75,.pick (.tmp 73) (.tmp 74) (.const (.bool false)),4,"law.go:40",#[⟨38,.data⟩,⟨39,.data⟩],none⟩) (v:=?_) rfl (by as_aux_lemma => kernel_rfl) (by as_aux_lemma => kernel_rfl) (by as_aux_lemma => kernel_rfl) (fun _ _ _ h => h) (Or.inl ⟨by rfl,?_⟩) (by assumption) ?_
 rotate_left
 ·intro w' hSw
  try dsimp only at hSw
  go_simp
  try with_reducible rfl
 try simp only [Act.put,List.setIfInBounds_toArray,List.set_cons_zero,List.set_cons_succ]
 refine wpAnyH_take (i:=41) (oi:=⟨some 6,.assign (.tmp 75),4,"law.go:40",#[⟨40,.data⟩,⟨39,.chain⟩,⟨0,.phase⟩,⟨1,.phase⟩,⟨2,.phase⟩,⟨3,.phase⟩,⟨4,.phase⟩,⟨5,.phase⟩,⟨6,.phase⟩,⟨7,.phase⟩,⟨8,.phase⟩,⟨9,.phase⟩,⟨10,.phase⟩,⟨11,.phase⟩,⟨12,.phase⟩,⟨13,.phase⟩,⟨14,.phase⟩,⟨15,.phase⟩,⟨16,.phase⟩,⟨17,.phase⟩,⟨18,.phase⟩,⟨19,.phase⟩,⟨20,.phase⟩,⟨21,.phase⟩,⟨22,.phase⟩,⟨23,.phase⟩,⟨24,.phase⟩,⟨25,.phase⟩,⟨26,.phase⟩,⟨27,.phase⟩,⟨28,.phase⟩,⟨29,.phase⟩,⟨30,.phase⟩,⟨31,.phase⟩,⟨32,.phase⟩,⟨33,.phase⟩,⟨34,.phase⟩,⟨35,.phase⟩,⟨36,.phase⟩,⟨37,.phase⟩,⟨38,.phase⟩,⟨39,.phase⟩,⟨40,.phase⟩],none⟩) (v:=?_) rfl (by as_aux_lemma => kernel_rfl) (by as_aux_lemma => kernel_rfl) (by as_aux_lemma => kernel_rfl) (fun _ _ _ h => h) (Or.inl ⟨by rfl,?_⟩) (by assumption) ?_
 rotate_left
 ·intro w' hSw
  try dsimp only at hSw
  go_simp
  try with_reducible rfl
 try simp only [Act.put,List.setIfInBounds_toArray,List.set_cons_zero,List.set_cons_succ]
 refine wpAnyH_done (by kernel_rfl) ?_ _
 replace HB:=hZq (below2Z HB.out (K1010.out))
 go_wp2_with fail
 go_ret
 exact⟨rfl,HB.out⟩

theorem walkClientFeeds {w:World} {v1 v2 vt:Value} {t1 t2:List Row} {k s sh pr si:Int} {on:Bool} {c st:List UInt8} {sum:Nat} {tt:List Row} (hv1:Tab w v1 t1) (n1:Int) (o1:Bool) (hv2:Tab w v2 t2) (n2:Int) (o2:Bool) (hvt:Tab w vt tt) (hM:c.length≤maxLen∧st.length≤maxLen∧sum < 18446744073709551616∧(Lit.int .i64 k).wf=true) :
  Calls Tryz.prog 3 #[.agg #[v1,.int .i64 n1,.bool o1],.agg #[v2,.int .i64 n2,.bool o2],.agg #[.int .i64 k,.int .i64 s,.bool on,.string ⟨c.toArray⟩,.int .i64 sh,.int .i64 pr,.int .i64 si,.string ⟨st.toArray⟩,.int .u64 sum,vt]] w fun e w' => e=.returned (.bool true)∧Below w.heap.size w w':=by
 cases h1:fewT t1 with
 | false => exact clf_1 hv1 n1 o1 hv2 n2 o2 hvt hM (hZq h1)
 | true =>
 cases h2:fewT t2 with
 | false => exact clf_2 hv1 n1 o1 hv2 n2 o2 hvt hM (hZq h1) (hZq h2)
 | true =>
 cases h3:fewF ⟨k,s,on,c,⟨sh,pr,si,st⟩,sum,tt⟩ with
 | false => exact clf_3 hv1 n1 o1 hv2 n2 o2 hvt hM (hZq h1) (hZq h2) (hZq h3)
 | true =>
 obtain⟨l,r,hk⟩ : ∃ l r,clAsk ⟨t1,n1,o1⟩=(l,r):=⟨_,_,rfl⟩
 obtain⟨⟨t3,n3,o3⟩,hf⟩ : ∃ zz,clFeed ⟨t1,n1,o1⟩ ⟨k,s,on,c,⟨sh,pr,si,st⟩,sum,tt⟩=zz:=⟨_,rfl⟩
 exact clf_4 hv1 n1 o1 hv2 n2 o2 hvt hM (hZq h1) (hZq h2) (hZq h3) (hZq hk) (hZq hf) (hZq rfl) (hZq rfl)

end Go.Proofs.YtekkofldhhdpgaaGreat

end

section

namespace Go.Proofs.YtekkofldhhdpgaaGreat.clientFeeds
open Go.ChangeShapes Go.WideShapes Go.ChangeAt Go.RowKit
open Go.ChangeMaps (open_string shut_string)
set_option linter.unusedVariables false

theorem own:ownKnob Tryz.prog.godebug=none:=by kernel_rfl
theorem laidOut:laidOutB Tryz.prog=true:=by kernel_rfl

theorem lifted (os:Os) (started:os.Started) (H:Type) (enc:TypeId × Value→H) :
  ReturnsInHanded {} Tryz.checked os 3 .any (Rows.clientFeedsSpec.pre6 enc Tryz.prog Tryz.f3 Rows.clientFeedsRow.domain false) (Rows.clientFeedsSpec.post enc Tryz.prog Tryz.f3 false true false false):=by
 refine returnsInHanded_of_change (C:=Tryz.checked) own started (by kernel_rfl) Tryz.func3
  (ChangeSpec.witness6 (enc:=enc) (C:=Tryz.checked) false ⟨#[],#[.agg #[.slice none 0 0,.int .i64 0,.bool false],.agg #[.slice none 0 0,.int .i64 0,.bool false],.agg #[.int .i64 0,.int .i64 0,.bool false,.string ByteArray.empty,.int .i64 0,.int .i64 0,.int .i64 0,.string ByteArray.empty,.int .u64 0,.slice none 0 0]],[]⟩ 8 (by kernel_rfl) (by kernel_rfl) (by kernel_rfl) (by kernel_rfl)) ?_
 intro W base args ds gs before hval0 hW hcnd _
 have hval:∀ (j:Nat) t v,Tryz.f3.params[j]?=some t→args[j]?=some v→Value.okWide Tryz.prog W .any base t v:=hval0
 have hW':=hW
 obtain⟨p,q,hA0,hV,rfl,hfz,hnd⟩:=hW
 have hA:DataW.TrodAll enc Tryz.prog W 0 (fun _ => true) true Tryz.f3.params.toList args.toList ds p:=hA0
 rw [Tryz.params3] at hA hval
 obtain⟨v0,vs0,d0,ds0,p0,q0,hargs,rfl,rfl,h0,r0⟩:=trodAll_cons hA
 obtain⟨v1,vs1,d1,ds1,p1,q1,rfl,rfl,rfl,h1,r1⟩:=trodAll_cons r0
 obtain⟨v2,vs2,d2,ds2,p2,q2,rfl,rfl,rfl,h2,r2⟩:=trodAll_cons r1
 obtain⟨rfl,rfl,rfl⟩:=trodAll_nil r2
 obtain rfl:args=#[v0,v1,v2]:=by cases args; simp_all
 obtain⟨rfl,rfl⟩:=trodVars_none hV
 have k0:=h0
 have lt0:∀ x ∈ p0,x.block < W.heap.size:=by obtain⟨m,hm⟩:=k0; exact DataW.trod_lt m _ _ _ hm
 obtain⟨t0,n0,o0,u0,rfl,w0⟩:=open_cli (hval 0 24 v0 rfl rfl) h0
 have k1:=h1
 have lt1:∀ x ∈ p1,x.block < W.heap.size:=by obtain⟨m,hm⟩:=k1; exact DataW.trod_lt m _ _ _ hm
 obtain⟨t1,n1,o1,u1,rfl,w1⟩:=open_cli (hval 1 24 v1 rfl rfl) h1
 have k2:=h2
 have lt2:∀ x ∈ p2,x.block < W.heap.size:=by obtain⟨m,hm⟩:=k2; exact DataW.trod_lt m _ _ _ hm
 obtain⟨f2,t2,rfl,c2,w2⟩:=open_framew (hval 2 29 v2 rfl rfl) h2
 clear hA0 hval0
 refine (walkClientFeeds (w:=W) w0 n0 o0 w1 n1 o1 w2 c2).mono fun e W' ⟨he,bel⟩ => ?_
 subst he
 exact⟨_,rfl,_,_,_,[],_,[],hW',trodAll_mk1 (shut_bool Tryz.underlying4 _),(trodAll_cons_mk (Below.trod laidOut (by kernel_rfl) (of_decide_eq_true (by kernel_rfl)) k0 bel lt0) (trodAll_cons_mk (Below.trod laidOut (by kernel_rfl) (of_decide_eq_true (by kernel_rfl)) k1 bel lt1) (trodAll_cons_mk (Below.trod laidOut (by kernel_rfl) (of_decide_eq_true (by kernel_rfl)) k2 bel lt2) trodAll_mk0))),rfl,bel.frame _,fun h => by cases h⟩

theorem over:Rows.clientFeedsRow.holds Tryz.pinned (OpenSpec.ofChange Rows.clientFeedsSpec) :=
 OpenClaim.holds_of_wide 3 Tryz.f3 rfl rfl rfl rfl rfl rfl rfl ⟨rfl,rfl,rfl,rfl,rfl⟩ rfl rfl rfl rfl rfl (by kernel_rfl) Tryz.func3 (by kernel_rfl)
  (of_decide_eq_true (by kernel_rfl)) (by unfold Func.isWrapper; first | (rw [if_pos (by decide +kernel)]; kernel_rfl) | (rw [if_neg (by decide +kernel)]; exact⟨rfl,rfl⟩))
  (fun os started H enc _ => lifted os started H enc)

theorem proved:Rows.ClientFeedsSaid:=over
#print axioms proved
end Go.Proofs.YtekkofldhhdpgaaGreat.clientFeeds

end
