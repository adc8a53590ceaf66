/-
 TEXTS OF THE PROOF, one behind the other: CliRef.
-/
import Derived.Test.YtmpigdokghngiaaGreatK24
import Derived.Test.YtmpigdokghngiaaGreatK05
import Derived.Test.YtmpigdokghngiaaGreatK14
import Derived.Test.YtmpigdokghngiaaGreatK15
import Derived.Test.YtmpigdokghngiaaGreatK02
import Derived.Test.YtmpigdokghngiaaGreatK19
import Derived.Test.YtmpigdokghngiaaGreatK18

set_option maxHeartbeats 12800000
set_option maxRecDepth 100000

namespace Go.Proofs.YtmpigdokghngiaaGreat
open Go.RowKit

theorem rset_eqC {w:World} {v:Value} {t:List Row} (hv:Tab w v t) (hl:t.length≤1000) (c st:List UInt8) (on:Bool) (a b d:Int) :
  Calls Tryz.prog 72 #[v,.agg #[.string ⟨c.toArray⟩,.bool on,.int .i64 a,.int .i64 b,.int .i64 d,.string ⟨st.toArray⟩]] w fun e w' => ∃ u,e=.returned u∧OwnR w' w.heap.size u (diSet t ⟨c,on,⟨a,b,d,st⟩⟩)∧Below w.heap.size w w' :=
 rset_any hv hl ⟨c,on,⟨a,b,d,st⟩⟩

theorem rsum_eqC {w:World} {v:Value} {t:List Row} (hv:Tab w v t) (hs:Short t) {z:Nat} (h:Hid (diSum t=z)) :
  Calls Tryz.prog 32 #[v] w fun e w' => e=.returned (.int .u64 z)∧Below w.heap.size w w':=by
 have:=rdisum_any hv hs
 rwa [h.out] at this

theorem rclmay_n {w:World} {v:Value} {t:List Row} (hv:Tab w v t) (n:Int) (o:Bool) (hs:Short t) (HR:Hid (diMay t=false))  :
  Calls Tryz.prog 29 #[.agg #[v,.int .i64 n,.bool o]] w fun e w' => e=.returned (.bool false)∧Below w.heap.size w w':=by
 obtain⟨ca,cc,rfl,-⟩:=hv.open'
 obtain⟨CB,HB⟩:=ent1 w (.cells #[.slice ca t.length cc,.int .i64 n,.bool o] 33)
 have VA:=hZq (hv.later HB.out)
 clear hv
 go_enter Tryz.func29,Tryz.ntmps29
 have CBo:=blk3 CB.out
 go_wp2_with fail
 clear CBo
 refine (rdimay_eq VA.out hs HR).mono ?_
 rintro e w2 ⟨rfl,b2⟩
 replace CB:=hZq (upQ CB.out b2)
 replace VA:=hZq (VA.out.later b2)
 replace HB:=hZq (below2Z HB.out b2)
 clear b2
 have CBo:=blk3 CB.out
 go_wp2_with fail
 clear CBo
 go_ret
 exact⟨rfl,HB.out⟩

theorem rclmay_a {w:World} {v:Value} {t:List Row} (hv:Tab w v t) (n:Int) (o:Bool) (hs:Short t) (HR:Hid (diMay t=true)) (h0:n < 0) :
  Calls Tryz.prog 29 #[.agg #[v,.int .i64 n,.bool o]] w fun e w' => e=.returned (.bool false)∧Below w.heap.size w w':=by
 have g1:decide (0≤n)=false:=by rw [decide_eq_false_iff_not]; omega
 clear h0
 obtain⟨ca,cc,rfl,-⟩:=hv.open'
 obtain⟨CB,HB⟩:=ent1 w (.cells #[.slice ca t.length cc,.int .i64 n,.bool o] 33)
 have VA:=hZq (hv.later HB.out)
 clear hv
 go_enter Tryz.func29,Tryz.ntmps29
 have CBo:=blk3 CB.out
 go_wp2_with fail
 clear CBo
 refine (rdimay_eq VA.out hs HR).mono ?_
 rintro e w2 ⟨rfl,b2⟩
 replace CB:=hZq (upQ CB.out b2)
 replace VA:=hZq (VA.out.later b2)
 replace HB:=hZq (below2Z HB.out b2)
 clear b2
 have CBo:=blk3 CB.out
 go_wp2_with fail
 clear CBo
 go_ret
 exact⟨rfl,HB.out⟩

theorem rclmay_b {w:World} {v:Value} {t:List Row} (hv:Tab w v t) (n:Int) (o:Bool) (hs:Short t) (HR:Hid (diMay t=true)) (h0:0≤n) (h1:1099511627777 < n) :
  Calls Tryz.prog 29 #[.agg #[v,.int .i64 n,.bool o]] w fun e w' => e=.returned (.bool false)∧Below w.heap.size w w':=by
 have g1:decide (0≤n)=true:=by rw [decide_eq_true_eq]; omega
 have g2:decide (n≤1099511627777)=false:=by rw [decide_eq_false_iff_not]; omega
 clear h0 h1
 obtain⟨ca,cc,rfl,-⟩:=hv.open'
 obtain⟨CB,HB⟩:=ent1 w (.cells #[.slice ca t.length cc,.int .i64 n,.bool o] 33)
 have VA:=hZq (hv.later HB.out)
 clear hv
 go_enter Tryz.func29,Tryz.ntmps29
 have CBo:=blk3 CB.out
 go_wp2_with fail
 clear CBo
 refine (rdimay_eq VA.out hs HR).mono ?_
 rintro e w2 ⟨rfl,b2⟩
 replace CB:=hZq (upQ CB.out b2)
 replace VA:=hZq (VA.out.later b2)
 replace HB:=hZq (below2Z HB.out b2)
 clear b2
 have CBo:=blk3 CB.out
 go_wp2_with fail
 clear CBo
 go_ret
 exact⟨rfl,HB.out⟩

theorem rclmay_c {w:World} {v:Value} {t:List Row} (hv:Tab w v t) (n:Int) (o:Bool) (hs:Short t) (HR:Hid (diMay t=true)) (h0:0≤n) (h1:n≤1099511627777) :
  Calls Tryz.prog 29 #[.agg #[v,.int .i64 n,.bool o]] w fun e w' => e=.returned (.bool true)∧Below w.heap.size w w':=by
 have g1:decide (0≤n)=true:=by rw [decide_eq_true_eq]; omega
 have g2:decide (n≤1099511627777)=true:=by rw [decide_eq_true_eq]; omega
 clear h0 h1
 obtain⟨ca,cc,rfl,-⟩:=hv.open'
 obtain⟨CB,HB⟩:=ent1 w (.cells #[.slice ca t.length cc,.int .i64 n,.bool o] 33)
 have VA:=hZq (hv.later HB.out)
 clear hv
 go_enter Tryz.func29,Tryz.ntmps29
 have CBo:=blk3 CB.out
 go_wp2_with fail
 clear CBo
 refine (rdimay_eq VA.out hs HR).mono ?_
 rintro e w2 ⟨rfl,b2⟩
 replace CB:=hZq (upQ CB.out b2)
 replace VA:=hZq (VA.out.later b2)
 replace HB:=hZq (below2Z HB.out b2)
 clear b2
 have CBo:=blk3 CB.out
 go_wp2_with fail
 clear CBo
 go_ret
 exact⟨rfl,HB.out⟩

theorem rclmay_eq {w:World} {v:Value} {t:List Row} (hv:Tab w v t) (hs:Short t) (n:Int) (o:Bool) {r:Bool} (h:Hid (clMay ⟨t,n,o⟩=r)) :
  Calls Tryz.prog 29 #[.agg #[v,.int .i64 n,.bool o]] w fun e w' => e=.returned (.bool r)∧Below w.heap.size w w':=by
 have h:=h.out
 unfold clMay at h
 simp only at h
 cases hd:diMay t with
 | false =>
  rw [hd,Bool.and_false] at h
  subst h
  exact rclmay_n hv n o hs (hZq hd)
 | true =>
  by_cases h0:n < 0
  ·rw [show decide (0≤n)=false by rw [decide_eq_false_iff_not]; omega] at h
   subst h
   exact rclmay_a hv n o hs (hZq hd) h0
  ·by_cases h1:1099511627777 < n
   ·rw [show decide (n≤1099511627777)=false by rw [decide_eq_false_iff_not]; omega,Bool.and_false] at h
    subst h
    exact rclmay_b hv n o hs (hZq hd) (by omega) h1
   ·rw [hd,show decide (0≤n)=true by rw [decide_eq_true_eq]; omega,show decide (n≤1099511627777)=true by rw [decide_eq_true_eq]; omega] at h
    subst h
    exact rclmay_c hv n o hs (hZq hd) (by omega) (by omega)

theorem rclfeed_c {w:World} {v vt:Value} {t:List Row} {k s sh pr si:Int} {on:Bool} {c st:List UInt8} {sum:Nat} {tt:List Row} (hv:Tab w v t) (hvt:Tab w vt tt) (n:Int) (o:Bool) (hsT:Hid (Short t)) (_hsh:Hid (Short tt)) (_hc:c.length≤4294967296) (_hst:st.length≤4294967296) (HC:Hid (clMay ⟨t,n,o⟩=false)) :
  Calls Tryz.prog 43 #[.agg #[v,.int .i64 n,.bool o],.agg #[.int .i64 k,.int .i64 s,.bool on,.string ⟨c.toArray⟩,.int .i64 sh,.int .i64 pr,.int .i64 si,.string ⟨st.toArray⟩,.int .u64 sum,vt]] w fun e w' => ∃ u,e=.returned (.agg #[u,.int .i64 n,.bool o])∧CT w' w.heap.size u v vt t t tt∧Below w.heap.size w w':=by
 obtain⟨ca,cc,rfl,-⟩:=hv.open'
 obtain⟨ta,tc,rfl,-⟩:=hvt.open'
 have VA:=hZq (fun X (hX:Below w.heap.size w X) => hv.later hX)
 have VT:=hZq (fun X (hX:Below w.heap.size w X) => hvt.later hX)
 obtain⟨CB,FB,RB,HB⟩:=ent3 w (.cells #[.slice ca t.length cc,.int .i64 n,.bool o] 33) (.cells #[.int .i64 k,.int .i64 s,.bool on,.string ⟨c.toArray⟩,.int .i64 sh,.int .i64 pr,.int .i64 si,.string ⟨st.toArray⟩,.int .u64 sum,.slice ta tt.length tc] 56) (.cells #[.slice none 0 0,.int .i64 0,.bool false] 33)
 clear hv hvt
 go_enter Tryz.func43,Tryz.ntmps43
 have CBo:=blk3 CB.out
 go_wp2_with fail
 generalize ((w.alloc (.cells #[.slice ca t.length cc,.int .i64 n,.bool o] 33)).alloc (.cells #[.int .i64 k,.int .i64 s,.bool on,.string ⟨c.toArray⟩,.int .i64 sh,.int .i64 pr,.int .i64 si,.string ⟨st.toArray⟩,.int .u64 sum,.slice ta tt.length tc] 56)).alloc (.cells #[.slice none 0 0,.int .i64 0,.bool false] 33)=w4 at CB FB RB HB ⊢
 clear CBo
 refine (rclmay_eq (VA.out _ HB.out) hsT.out n o HC).mono ?_
 rintro e w5 ⟨rfl,b5⟩
 replace CB:=hZq (upQ CB.out b5)
 replace FB:=hZq (upQ FB.out b5)
 replace RB:=hZq (upQ RB.out b5)
 replace HB:=hZq (below2Z HB.out b5)
 clear b5
 have CBo:=blk3 CB.out
 have RBo:=blk3 RB.out
 go_wp2_with fail
 clear CBo RBo
 have hz:=stN3_heap RB.out (.slice ca t.length cc) (.int .i64 n) (.bool o)
 have hle:w.heap.size≤w.heap.size+1+1:=by omega
 obtain⟨⟨z0,z1,z2⟩,-⟩:=blk3 hz
 unfold stN3 at z0 z1 z2
 refine bodyPost_ret (v:=.agg #[.slice ca t.length cc,.int .i64 n,.bool o]) (by simp [results,Tryz.results43,go_sem,z0,z1,z2]) rfl ?_
 exact⟨_,rfl,.inl ⟨rfl,rfl⟩,((HB.out.setCell hle _).setCell hle _).setCell hle _⟩

theorem rclfeed_f {w:World} {v vt:Value} {t:List Row} {k s sh pr si:Int} {on:Bool} {c st:List UInt8} {sum:Nat} {tt:List Row} (hv:Tab w v t) (hvt:Tab w vt tt) (n:Int) (o:Bool) (hsT:Hid (Short t)) (hsh:Hid (Short tt)) (hc:c.length≤4294967296) (hst:st.length≤4294967296) (HC:Hid (clMay ⟨t,n,o⟩=true)) (HM:Hid (frMay ⟨k,s,on,c,⟨sh,pr,si,st⟩,sum,tt⟩=false)) :
  Calls Tryz.prog 43 #[.agg #[v,.int .i64 n,.bool o],.agg #[.int .i64 k,.int .i64 s,.bool on,.string ⟨c.toArray⟩,.int .i64 sh,.int .i64 pr,.int .i64 si,.string ⟨st.toArray⟩,.int .u64 sum,vt]] w fun e w' => ∃ u,e=.returned (.agg #[u,.int .i64 n,.bool o])∧CT w' w.heap.size u v vt t t tt∧Below w.heap.size w w':=by
 obtain⟨ca,cc,rfl,-⟩:=hv.open'
 obtain⟨ta,tc,rfl,-⟩:=hvt.open'
 have VA:=hZq (fun X (hX:Below w.heap.size w X) => hv.later hX)
 have VT:=hZq (fun X (hX:Below w.heap.size w X) => hvt.later hX)
 obtain⟨CB,FB,RB,HB⟩:=ent3 w (.cells #[.slice ca t.length cc,.int .i64 n,.bool o] 33) (.cells #[.int .i64 k,.int .i64 s,.bool on,.string ⟨c.toArray⟩,.int .i64 sh,.int .i64 pr,.int .i64 si,.string ⟨st.toArray⟩,.int .u64 sum,.slice ta tt.length tc] 56) (.cells #[.slice none 0 0,.int .i64 0,.bool false] 33)
 clear hv hvt
 go_enter Tryz.func43,Tryz.ntmps43
 have CBo:=blk3 CB.out
 go_wp2_with fail
 generalize ((w.alloc (.cells #[.slice ca t.length cc,.int .i64 n,.bool o] 33)).alloc (.cells #[.int .i64 k,.int .i64 s,.bool on,.string ⟨c.toArray⟩,.int .i64 sh,.int .i64 pr,.int .i64 si,.string ⟨st.toArray⟩,.int .u64 sum,.slice ta tt.length tc] 56)).alloc (.cells #[.slice none 0 0,.int .i64 0,.bool false] 33)=w4 at CB FB RB HB ⊢
 clear CBo
 refine (rclmay_eq (VA.out _ HB.out) hsT.out n o HC).mono ?_
 rintro e w5 ⟨rfl,b5⟩
 replace CB:=hZq (upQ CB.out b5)
 replace FB:=hZq (upQ FB.out b5)
 replace RB:=hZq (upQ RB.out b5)
 replace HB:=hZq (below2Z HB.out b5)
 clear b5
 have FBo:=blk10 FB.out
 go_wp2_with fail
 clear FBo
 refine (rfrmay_any (VT.out _ HB.out) hsh.out hc hst HM).mono ?_
 rintro e w6 ⟨rfl,b6⟩
 replace CB:=hZq (upQ CB.out b6)
 replace FB:=hZq (upQ FB.out b6)
 replace RB:=hZq (upQ RB.out b6)
 replace HB:=hZq (below2Z HB.out b6)
 clear b6
 have CBo:=blk3 CB.out
 have RBo:=blk3 RB.out
 go_wp2_with fail
 clear CBo RBo
 have hz:=stN3_heap RB.out (.slice ca t.length cc) (.int .i64 n) (.bool o)
 have hle:w.heap.size≤w.heap.size+1+1:=by omega
 obtain⟨⟨z0,z1,z2⟩,-⟩:=blk3 hz
 unfold stN3 at z0 z1 z2
 refine bodyPost_ret (v:=.agg #[.slice ca t.length cc,.int .i64 n,.bool o]) (by simp [results,Tryz.results43,go_sem,z0,z1,z2]) rfl ?_
 exact⟨_,rfl,.inl ⟨rfl,rfl⟩,((HB.out.setCell hle _).setCell hle _).setCell hle _⟩

theorem rclfeed_r {w:World} {v vt:Value} {t:List Row} {s sh pr si:Int} {on:Bool} {c st:List UInt8} {sum:Nat} {tt:List Row} (hv:Tab w v t) (hvt:Tab w vt tt) (n:Int) (o:Bool) (hsT:Hid (Short t)) (hsh:Hid (Short tt)) (hc:c.length≤4294967296) (hst:st.length≤4294967296) (HC:Hid (clMay ⟨t,n,o⟩=true)) (HM:Hid (frMay ⟨4,s,on,c,⟨sh,pr,si,st⟩,sum,tt⟩=true)) :
  Calls Tryz.prog 43 #[.agg #[v,.int .i64 n,.bool o],.agg #[.int .i64 4,.int .i64 s,.bool on,.string ⟨c.toArray⟩,.int .i64 sh,.int .i64 pr,.int .i64 si,.string ⟨st.toArray⟩,.int .u64 sum,vt]] w fun e w' => ∃ u,e=.returned (.agg #[u,.int .i64 n,.bool o])∧CT w' w.heap.size u v vt t t tt∧Below w.heap.size w w':=by
 obtain⟨ca,cc,rfl,-⟩:=hv.open'
 obtain⟨ta,tc,rfl,-⟩:=hvt.open'
 have VA:=hZq (fun X (hX:Below w.heap.size w X) => hv.later hX)
 have VT:=hZq (fun X (hX:Below w.heap.size w X) => hvt.later hX)
 obtain⟨CB,FB,RB,HB⟩:=ent3 w (.cells #[.slice ca t.length cc,.int .i64 n,.bool o] 33) (.cells #[.int .i64 4,.int .i64 s,.bool on,.string ⟨c.toArray⟩,.int .i64 sh,.int .i64 pr,.int .i64 si,.string ⟨st.toArray⟩,.int .u64 sum,.slice ta tt.length tc] 56) (.cells #[.slice none 0 0,.int .i64 0,.bool false] 33)
 clear hv hvt
 go_enter Tryz.func43,Tryz.ntmps43
 have CBo:=blk3 CB.out
 go_wp2_with fail
 generalize ((w.alloc (.cells #[.slice ca t.length cc,.int .i64 n,.bool o] 33)).alloc (.cells #[.int .i64 4,.int .i64 s,.bool on,.string ⟨c.toArray⟩,.int .i64 sh,.int .i64 pr,.int .i64 si,.string ⟨st.toArray⟩,.int .u64 sum,.slice ta tt.length tc] 56)).alloc (.cells #[.slice none 0 0,.int .i64 0,.bool false] 33)=w4 at CB FB RB HB ⊢
 clear CBo
 refine (rclmay_eq (VA.out _ HB.out) hsT.out n o HC).mono ?_
 rintro e w5 ⟨rfl,b5⟩
 replace CB:=hZq (upQ CB.out b5)
 replace FB:=hZq (upQ FB.out b5)
 replace RB:=hZq (upQ RB.out b5)
 replace HB:=hZq (below2Z HB.out b5)
 clear b5
 have FBo:=blk10 FB.out
 go_wp2_with fail
 clear FBo
 refine (rfrmay_any (VT.out _ HB.out) hsh.out hc hst HM).mono ?_
 rintro e w6 ⟨rfl,b6⟩
 replace CB:=hZq (upQ CB.out b6)
 replace FB:=hZq (upQ FB.out b6)
 replace RB:=hZq (upQ RB.out b6)
 replace HB:=hZq (below2Z HB.out b6)
 clear b6
 have FBo:=blk10 FB.out
 have CBo:=blk3 CB.out
 have RBo:=blk3 RB.out
 go_wp2_with fail
 clear FBo CBo RBo
 have hz:=stN3_heap RB.out (.slice ca t.length cc) (.int .i64 n) (.bool o)
 have hle:w.heap.size≤w.heap.size+1+1:=by omega
 obtain⟨⟨z0,z1,z2⟩,-⟩:=blk3 hz
 unfold stN3 at z0 z1 z2
 refine bodyPost_ret (v:=.agg #[.slice ca t.length cc,.int .i64 n,.bool o]) (by simp [results,Tryz.results43,go_sem,z0,z1,z2]) rfl ?_
 exact⟨_,rfl,.inl ⟨rfl,rfl⟩,((HB.out.setCell hle _).setCell hle _).setCell hle _⟩

theorem rclfeed_s {w:World} {v vt:Value} {t:List Row} {k s sh pr si:Int} {on:Bool} {c st:List UInt8} {sum:Nat} {tt:List Row} (hv:Tab w v t) (hvt:Tab w vt tt) (n:Int) (o:Bool) (hsT:Hid (Short t)) (hsh:Hid (Short tt)) (hc:c.length≤4294967296) (hst:st.length≤4294967296) (hk4:¬ k=4) (HC:Hid (clMay ⟨t,n,o⟩=true)) (HM:Hid (frMay ⟨k,s,on,c,⟨sh,pr,si,st⟩,sum,tt⟩=true)) (hlt:s < n) :
  Calls Tryz.prog 43 #[.agg #[v,.int .i64 n,.bool o],.agg #[.int .i64 k,.int .i64 s,.bool on,.string ⟨c.toArray⟩,.int .i64 sh,.int .i64 pr,.int .i64 si,.string ⟨st.toArray⟩,.int .u64 sum,vt]] w fun e w' => ∃ u,e=.returned (.agg #[u,.int .i64 n,.bool o])∧CT w' w.heap.size u v vt t t tt∧Below w.heap.size w w':=by
 have g4:(k == 4)=false:=by rw [beq_eq_false_iff_ne]; exact hk4
 have g1:decide (s < n)=true:=by rw [decide_eq_true_eq]; exact hlt
 clear hlt hk4
 obtain⟨ca,cc,rfl,-⟩:=hv.open'
 obtain⟨ta,tc,rfl,-⟩:=hvt.open'
 have VA:=hZq (fun X (hX:Below w.heap.size w X) => hv.later hX)
 have VT:=hZq (fun X (hX:Below w.heap.size w X) => hvt.later hX)
 obtain⟨CB,FB,RB,HB⟩:=ent3 w (.cells #[.slice ca t.length cc,.int .i64 n,.bool o] 33) (.cells #[.int .i64 k,.int .i64 s,.bool on,.string ⟨c.toArray⟩,.int .i64 sh,.int .i64 pr,.int .i64 si,.string ⟨st.toArray⟩,.int .u64 sum,.slice ta tt.length tc] 56) (.cells #[.slice none 0 0,.int .i64 0,.bool false] 33)
 clear hv hvt
 go_enter Tryz.func43,Tryz.ntmps43
 have CBo:=blk3 CB.out
 go_wp2_with fail
 generalize ((w.alloc (.cells #[.slice ca t.length cc,.int .i64 n,.bool o] 33)).alloc (.cells #[.int .i64 k,.int .i64 s,.bool on,.string ⟨c.toArray⟩,.int .i64 sh,.int .i64 pr,.int .i64 si,.string ⟨st.toArray⟩,.int .u64 sum,.slice ta tt.length tc] 56)).alloc (.cells #[.slice none 0 0,.int .i64 0,.bool false] 33)=w4 at CB FB RB HB ⊢
 clear CBo
 refine (rclmay_eq (VA.out _ HB.out) hsT.out n o HC).mono ?_
 rintro e w5 ⟨rfl,b5⟩
 replace CB:=hZq (upQ CB.out b5)
 replace FB:=hZq (upQ FB.out b5)
 replace RB:=hZq (upQ RB.out b5)
 replace HB:=hZq (below2Z HB.out b5)
 clear b5
 have FBo:=blk10 FB.out
 go_wp2_with fail
 clear FBo
 refine (rfrmay_any (VT.out _ HB.out) hsh.out hc hst HM).mono ?_
 rintro e w6 ⟨rfl,b6⟩
 replace CB:=hZq (upQ CB.out b6)
 replace FB:=hZq (upQ FB.out b6)
 replace RB:=hZq (upQ RB.out b6)
 replace HB:=hZq (below2Z HB.out b6)
 clear b6
 have FBo:=blk10 FB.out
 have CBo:=blk3 CB.out
 have RBo:=blk3 RB.out
 go_wp2_with fail
 clear FBo CBo RBo
 have hz:=stN3_heap RB.out (.slice ca t.length cc) (.int .i64 n) (.bool o)
 have hle:w.heap.size≤w.heap.size+1+1:=by omega
 obtain⟨⟨z0,z1,z2⟩,-⟩:=blk3 hz
 unfold stN3 at z0 z1 z2
 refine bodyPost_ret (v:=.agg #[.slice ca t.length cc,.int .i64 n,.bool o]) (by simp [results,Tryz.results43,go_sem,z0,z1,z2]) rfl ?_
 exact⟨_,rfl,.inl ⟨rfl,rfl⟩,((HB.out.setCell hle _).setCell hle _).setCell hle _⟩

theorem rclfeed_3 {w:World} {v vt:Value} {t:List Row} {s sh pr si:Int} {on:Bool} {c st:List UInt8} {sum:Nat} {tt:List Row} (hv:Tab w v t) (hvt:Tab w vt tt) (n:Int) (o:Bool) (hsT:Hid (Short t)) (hsh:Hid (Short tt)) (hc:c.length≤4294967296) (hst:st.length≤4294967296) (HC:Hid (clMay ⟨t,n,o⟩=true)) (HM:Hid (frMay ⟨3,s,on,c,⟨sh,pr,si,st⟩,sum,tt⟩=true)) (hns:n≤s∧0≤s∧s≤1099511627776) :
  Calls Tryz.prog 43 #[.agg #[v,.int .i64 n,.bool o],.agg #[.int .i64 3,.int .i64 s,.bool on,.string ⟨c.toArray⟩,.int .i64 sh,.int .i64 pr,.int .i64 si,.string ⟨st.toArray⟩,.int .u64 sum,vt]] w fun e w' => ∃ u,e=.returned (.agg #[u,.int .i64 (s+1),.bool false])∧CT w' w.heap.size u v vt tt t tt∧Below w.heap.size w w':=by
 have g1:decide (s < n)=false:=by rw [decide_eq_false_iff_not]; omega
 have hw:IntKind.i64.wrap (s+1)=s+1:=IntWalk.i64_in _ (by omega)
 obtain⟨ca,cc,rfl,-⟩:=hv.open'
 obtain⟨ta,tc,rfl,-⟩:=hvt.open'
 have VA:=hZq (fun X (hX:Below w.heap.size w X) => hv.later hX)
 have VT:=hZq (fun X (hX:Below w.heap.size w X) => hvt.later hX)
 obtain⟨CB,FB,RB,HB⟩:=ent3 w (.cells #[.slice ca t.length cc,.int .i64 n,.bool o] 33) (.cells #[.int .i64 3,.int .i64 s,.bool on,.string ⟨c.toArray⟩,.int .i64 sh,.int .i64 pr,.int .i64 si,.string ⟨st.toArray⟩,.int .u64 sum,.slice ta tt.length tc] 56) (.cells #[.slice none 0 0,.int .i64 0,.bool false] 33)
 clear hv hvt
 go_enter Tryz.func43,Tryz.ntmps43
 have CBo:=blk3 CB.out
 go_wp2_with fail
 generalize ((w.alloc (.cells #[.slice ca t.length cc,.int .i64 n,.bool o] 33)).alloc (.cells #[.int .i64 3,.int .i64 s,.bool on,.string ⟨c.toArray⟩,.int .i64 sh,.int .i64 pr,.int .i64 si,.string ⟨st.toArray⟩,.int .u64 sum,.slice ta tt.length tc] 56)).alloc (.cells #[.slice none 0 0,.int .i64 0,.bool false] 33)=w4 at CB FB RB HB ⊢
 clear CBo
 refine (rclmay_eq (VA.out _ HB.out) hsT.out n o HC).mono ?_
 rintro e w5 ⟨rfl,b5⟩
 replace CB:=hZq (upQ CB.out b5)
 replace FB:=hZq (upQ FB.out b5)
 replace RB:=hZq (upQ RB.out b5)
 replace HB:=hZq (below2Z HB.out b5)
 clear b5
 have FBo:=blk10 FB.out
 go_wp2_with fail
 clear FBo
 refine (rfrmay_any (VT.out _ HB.out) hsh.out hc hst HM).mono ?_
 rintro e w6 ⟨rfl,b6⟩
 replace CB:=hZq (upQ CB.out b6)
 replace FB:=hZq (upQ FB.out b6)
 replace RB:=hZq (upQ RB.out b6)
 replace HB:=hZq (below2Z HB.out b6)
 clear b6
 have CBo:=blk3 CB.out
 have FBo:=blk10 FB.out
 have hRB:=(Array.getElem?_eq_some_iff.1 RB.out).1
 have hCB:=(Array.getElem?_eq_some_iff.1 CB.out).1
 have hFB:=(Array.getElem?_eq_some_iff.1 FB.out).1
 go_upto_region 4 with fail
 clear CBo FBo
 have b7:=bl_newZ w6 (.cells #[.slice ca t.length cc,.int .i64 (s+1),.bool o] 33)
 have DB:=newQ w6 (.cells #[.slice ca t.length cc,.int .i64 (s+1),.bool o] 33)
 have hDB:w.heap.size≤w6.heap.size:=HB.out.size
 replace CB:=hZq (upQ CB.out b7)
 replace FB:=hZq (upQ FB.out b7)
 replace RB:=hZq (upQ RB.out b7)
 replace HB:=hZq (below2Z HB.out b7)
 clear b7
 replace DB:=hZq DB
 generalize w6.alloc (.cells #[.slice ca t.length cc,.int .i64 (s+1),.bool o] 33)=w8 at CB FB RB DB HB ⊢
 generalize w6.heap.size=BD at DB hDB hRB hCB hFB ⊢
 clear hCB hFB
 have FBo:=blk10 FB.out
 go_upto_region 5 with fail
 clear FBo
 have FBo:=blk10 FB.out
 have DBo:=blk3 DB.out
 go_upto_region 6 with fail
 clear FBo DBo
 have DBz:=hZq (stS DB.out 0 (.slice ta tt.length tc) [.slice ta tt.length tc,.int .i64 (s+1),.bool o] rfl)
 have CBz:=hZq (stK CB.out (a:=⟨BD,0,none⟩) (u:=.slice ta tt.length tc) (show ¬ w.heap.size=BD by omega))
 have FBz:=hZq (stK FB.out (a:=⟨BD,0,none⟩) (u:=.slice ta tt.length tc) (show ¬ w.heap.size+1=BD by omega))
 have RBz:=hZq (stK RB.out (a:=⟨BD,0,none⟩) (u:=.slice ta tt.length tc) (show ¬ w.heap.size+1+1=BD by omega))
 have HBz:=hZq (HB.out.setCell (p:=⟨BD,0,none⟩) (show w.heap.size≤BD by omega) (.slice ta tt.length tc))
 clear HB CB FB RB DB
 generalize w8.setCell ⟨BD,0,none⟩ (.slice ta tt.length tc)=w9 at CBz FBz RBz DBz HBz ⊢
 have CB:=CBz
 clear CBz
 have FB:=FBz
 clear FBz
 have RB:=RBz
 clear RBz
 have DB:=DBz
 clear DBz
 have HB:=HBz
 clear HBz
 have DBo:=blk3 DB.out
 go_upto_region 7 with fail
 clear DBo
 have DBz:=hZq (stS DB.out 2 (.bool false) [.slice ta tt.length tc,.int .i64 (s+1),.bool false] rfl)
 have CBz:=hZq (stK CB.out (a:=⟨BD,2,none⟩) (u:=.bool false) (show ¬ w.heap.size=BD by omega))
 have FBz:=hZq (stK FB.out (a:=⟨BD,2,none⟩) (u:=.bool false) (show ¬ w.heap.size+1=BD by omega))
 have RBz:=hZq (stK RB.out (a:=⟨BD,2,none⟩) (u:=.bool false) (show ¬ w.heap.size+1+1=BD by omega))
 have HBz:=hZq (HB.out.setCell (p:=⟨BD,2,none⟩) (show w.heap.size≤BD by omega) (.bool false))
 clear HB CB FB RB DB
 generalize w9.setCell ⟨BD,2,none⟩ (.bool false)=w10 at CBz FBz RBz DBz HBz ⊢
 have CB:=CBz
 clear CBz
 have FB:=FBz
 clear FBz
 have RB:=RBz
 clear RBz
 have DB:=DBz
 clear DBz
 have HB:=HBz
 clear HBz
 have DBo:=blk3 DB.out
 have RBo:=blk3 RB.out
 go_wp2_with fail
 clear DBo RBo
 have hz:=stN3_heap RB.out (.slice ta tt.length tc) (.int .i64 (s+1)) (.bool false)
 have hle:w.heap.size≤w.heap.size+1+1:=by omega
 obtain⟨⟨z0,z1,z2⟩,-⟩:=blk3 hz
 unfold stN3 at z0 z1 z2
 refine bodyPost_ret (v:=.agg #[.slice ta tt.length tc,.int .i64 (s+1),.bool false]) (by simp [results,Tryz.results43,go_sem,z0,z1,z2]) rfl ?_
 exact⟨_,rfl,.inr (.inl ⟨rfl,rfl⟩),((HB.out.setCell hle _).setCell hle _).setCell hle _⟩

theorem rclfeed_o1 {w:World} {v vt:Value} {t:List Row} {k s sh pr si:Int} {on:Bool} {c st:List UInt8} {sum:Nat} {tt:List Row} (hv:Tab w v t) (hvt:Tab w vt tt) (n:Int) (hsT:Hid (Short t)) (hsh:Hid (Short tt)) (hc:c.length≤4294967296) (hst:st.length≤4294967296) (hk3:¬ k=3) (hk4:¬ k=4) (HC:Hid (clMay ⟨t,n,true⟩=true)) (HM:Hid (frMay ⟨k,s,on,c,⟨sh,pr,si,st⟩,sum,tt⟩=true)) (hns:n≤s∧0≤s∧s≤1099511627776) :
  Calls Tryz.prog 43 #[.agg #[v,.int .i64 n,.bool true],.agg #[.int .i64 k,.int .i64 s,.bool on,.string ⟨c.toArray⟩,.int .i64 sh,.int .i64 pr,.int .i64 si,.string ⟨st.toArray⟩,.int .u64 sum,vt]] w fun e w' => ∃ u,e=.returned (.agg #[u,.int .i64 (s+1),.bool true])∧CT w' w.heap.size u v vt t t tt∧Below w.heap.size w w':=by
 have g4:(k == 4)=false:=by rw [beq_eq_false_iff_ne]; exact hk4
 have g3:(k == 3)=false:=by rw [beq_eq_false_iff_ne]; exact hk3
 have g1:decide (s < n)=false:=by rw [decide_eq_false_iff_not]; omega
 have hw:IntKind.i64.wrap (s+1)=s+1:=IntWalk.i64_in _ (by omega)
 obtain⟨ca,cc,rfl,-⟩:=hv.open'
 obtain⟨ta,tc,rfl,-⟩:=hvt.open'
 have VA:=hZq (fun X (hX:Below w.heap.size w X) => hv.later hX)
 have VT:=hZq (fun X (hX:Below w.heap.size w X) => hvt.later hX)
 obtain⟨CB,FB,RB,HB⟩:=ent3 w (.cells #[.slice ca t.length cc,.int .i64 n,.bool true] 33) (.cells #[.int .i64 k,.int .i64 s,.bool on,.string ⟨c.toArray⟩,.int .i64 sh,.int .i64 pr,.int .i64 si,.string ⟨st.toArray⟩,.int .u64 sum,.slice ta tt.length tc] 56) (.cells #[.slice none 0 0,.int .i64 0,.bool false] 33)
 clear hv hvt
 go_enter Tryz.func43,Tryz.ntmps43
 have CBo:=blk3 CB.out
 go_wp2_with fail
 generalize ((w.alloc (.cells #[.slice ca t.length cc,.int .i64 n,.bool true] 33)).alloc (.cells #[.int .i64 k,.int .i64 s,.bool on,.string ⟨c.toArray⟩,.int .i64 sh,.int .i64 pr,.int .i64 si,.string ⟨st.toArray⟩,.int .u64 sum,.slice ta tt.length tc] 56)).alloc (.cells #[.slice none 0 0,.int .i64 0,.bool false] 33)=w4 at CB FB RB HB ⊢
 clear CBo
 refine (rclmay_eq (VA.out _ HB.out) hsT.out n true HC).mono ?_
 rintro e w5 ⟨rfl,b5⟩
 replace CB:=hZq (upQ CB.out b5)
 replace FB:=hZq (upQ FB.out b5)
 replace RB:=hZq (upQ RB.out b5)
 replace HB:=hZq (below2Z HB.out b5)
 clear b5
 have FBo:=blk10 FB.out
 go_wp2_with fail
 clear FBo
 refine (rfrmay_any (VT.out _ HB.out) hsh.out hc hst HM).mono ?_
 rintro e w6 ⟨rfl,b6⟩
 replace CB:=hZq (upQ CB.out b6)
 replace FB:=hZq (upQ FB.out b6)
 replace RB:=hZq (upQ RB.out b6)
 replace HB:=hZq (below2Z HB.out b6)
 clear b6
 have CBo:=blk3 CB.out
 have FBo:=blk10 FB.out
 have hRB:=(Array.getElem?_eq_some_iff.1 RB.out).1
 have hCB:=(Array.getElem?_eq_some_iff.1 CB.out).1
 have hFB:=(Array.getElem?_eq_some_iff.1 FB.out).1
 go_upto_region 4 with fail
 clear CBo FBo
 have b7:=bl_newZ w6 (.cells #[.slice ca t.length cc,.int .i64 (s+1),.bool true] 33)
 have DB:=newQ w6 (.cells #[.slice ca t.length cc,.int .i64 (s+1),.bool true] 33)
 have hDB:w.heap.size≤w6.heap.size:=HB.out.size
 replace CB:=hZq (upQ CB.out b7)
 replace FB:=hZq (upQ FB.out b7)
 replace RB:=hZq (upQ RB.out b7)
 replace HB:=hZq (below2Z HB.out b7)
 clear b7
 replace DB:=hZq DB
 generalize w6.alloc (.cells #[.slice ca t.length cc,.int .i64 (s+1),.bool true] 33)=w8 at CB FB RB DB HB ⊢
 generalize w6.heap.size=BD at DB hDB hRB hCB hFB ⊢
 clear hCB hFB
 have FBo:=blk10 FB.out
 have CBo:=blk3 CB.out
 have DBo:=blk3 DB.out
 go_upto_region 9 with fail
 clear FBo CBo DBo
 have DBz:=hZq (stS DB.out 2 (.bool true) [.slice ca t.length cc,.int .i64 (s+1),.bool true] rfl)
 have CBz:=hZq (stK CB.out (a:=⟨BD,2,none⟩) (u:=.bool true) (show ¬ w.heap.size=BD by omega))
 have FBz:=hZq (stK FB.out (a:=⟨BD,2,none⟩) (u:=.bool true) (show ¬ w.heap.size+1=BD by omega))
 have RBz:=hZq (stK RB.out (a:=⟨BD,2,none⟩) (u:=.bool true) (show ¬ w.heap.size+1+1=BD by omega))
 have HBz:=hZq (HB.out.setCell (p:=⟨BD,2,none⟩) (show w.heap.size≤BD by omega) (.bool true))
 clear HB CB FB RB DB
 generalize w8.setCell ⟨BD,2,none⟩ (.bool true)=w9 at CBz FBz RBz DBz HBz ⊢
 have CB:=CBz
 clear CBz
 have FB:=FBz
 clear FBz
 have RB:=RBz
 clear RBz
 have DB:=DBz
 clear DBz
 have HB:=HBz
 clear HBz
 have DBo:=blk3 DB.out
 have RBo:=blk3 RB.out
 go_wp2_with fail
 clear DBo RBo
 have hz:=stN3_heap RB.out (.slice ca t.length cc) (.int .i64 (s+1)) (.bool true)
 have hle:w.heap.size≤w.heap.size+1+1:=by omega
 obtain⟨⟨z0,z1,z2⟩,-⟩:=blk3 hz
 unfold stN3 at z0 z1 z2
 refine bodyPost_ret (v:=.agg #[.slice ca t.length cc,.int .i64 (s+1),.bool true]) (by simp [results,Tryz.results43,go_sem,z0,z1,z2]) rfl ?_
 exact⟨_,rfl,.inl ⟨rfl,rfl⟩,((HB.out.setCell hle _).setCell hle _).setCell hle _⟩

theorem rclfeed_o2 {w:World} {v vt:Value} {t:List Row} {k s sh pr si:Int} {on:Bool} {c st:List UInt8} {sum:Nat} {tt:List Row} (hv:Tab w v t) (hvt:Tab w vt tt) (n:Int) (hsT:Hid (Short t)) (hsh:Hid (Short tt)) (hc:c.length≤4294967296) (hst:st.length≤4294967296) (hk3:¬ k=3) (hk4:¬ k=4) (hg:n < s) (HC:Hid (clMay ⟨t,n,false⟩=true)) (HM:Hid (frMay ⟨k,s,on,c,⟨sh,pr,si,st⟩,sum,tt⟩=true)) (hns:n≤s∧0≤s∧s≤1099511627776) :
  Calls Tryz.prog 43 #[.agg #[v,.int .i64 n,.bool false],.agg #[.int .i64 k,.int .i64 s,.bool on,.string ⟨c.toArray⟩,.int .i64 sh,.int .i64 pr,.int .i64 si,.string ⟨st.toArray⟩,.int .u64 sum,vt]] w fun e w' => ∃ u,e=.returned (.agg #[u,.int .i64 (s+1),.bool true])∧CT w' w.heap.size u v vt t t tt∧Below w.heap.size w w':=by
 have g2:decide (n < s)=true:=by rw [decide_eq_true_eq]; exact hg
 have g4:(k == 4)=false:=by rw [beq_eq_false_iff_ne]; exact hk4
 have g3:(k == 3)=false:=by rw [beq_eq_false_iff_ne]; exact hk3
 have g1:decide (s < n)=false:=by rw [decide_eq_false_iff_not]; omega
 have hw:IntKind.i64.wrap (s+1)=s+1:=IntWalk.i64_in _ (by omega)
 obtain⟨ca,cc,rfl,-⟩:=hv.open'
 obtain⟨ta,tc,rfl,-⟩:=hvt.open'
 have VA:=hZq (fun X (hX:Below w.heap.size w X) => hv.later hX)
 have VT:=hZq (fun X (hX:Below w.heap.size w X) => hvt.later hX)
 obtain⟨CB,FB,RB,HB⟩:=ent3 w (.cells #[.slice ca t.length cc,.int .i64 n,.bool false] 33) (.cells #[.int .i64 k,.int .i64 s,.bool on,.string ⟨c.toArray⟩,.int .i64 sh,.int .i64 pr,.int .i64 si,.string ⟨st.toArray⟩,.int .u64 sum,.slice ta tt.length tc] 56) (.cells #[.slice none 0 0,.int .i64 0,.bool false] 33)
 clear hv hvt
 go_enter Tryz.func43,Tryz.ntmps43
 have CBo:=blk3 CB.out
 go_wp2_with fail
 generalize ((w.alloc (.cells #[.slice ca t.length cc,.int .i64 n,.bool false] 33)).alloc (.cells #[.int .i64 k,.int .i64 s,.bool on,.string ⟨c.toArray⟩,.int .i64 sh,.int .i64 pr,.int .i64 si,.string ⟨st.toArray⟩,.int .u64 sum,.slice ta tt.length tc] 56)).alloc (.cells #[.slice none 0 0,.int .i64 0,.bool false] 33)=w4 at CB FB RB HB ⊢
 clear CBo
 refine (rclmay_eq (VA.out _ HB.out) hsT.out n false HC).mono ?_
 rintro e w5 ⟨rfl,b5⟩
 replace CB:=hZq (upQ CB.out b5)
 replace FB:=hZq (upQ FB.out b5)
 replace RB:=hZq (upQ RB.out b5)
 replace HB:=hZq (below2Z HB.out b5)
 clear b5
 have FBo:=blk10 FB.out
 go_wp2_with fail
 clear FBo
 refine (rfrmay_any (VT.out _ HB.out) hsh.out hc hst HM).mono ?_
 rintro e w6 ⟨rfl,b6⟩
 replace CB:=hZq (upQ CB.out b6)
 replace FB:=hZq (upQ FB.out b6)
 replace RB:=hZq (upQ RB.out b6)
 replace HB:=hZq (below2Z HB.out b6)
 clear b6
 have CBo:=blk3 CB.out
 have FBo:=blk10 FB.out
 have hRB:=(Array.getElem?_eq_some_iff.1 RB.out).1
 have hCB:=(Array.getElem?_eq_some_iff.1 CB.out).1
 have hFB:=(Array.getElem?_eq_some_iff.1 FB.out).1
 go_upto_region 4 with fail
 clear CBo FBo
 have b7:=bl_newZ w6 (.cells #[.slice ca t.length cc,.int .i64 (s+1),.bool false] 33)
 have DB:=newQ w6 (.cells #[.slice ca t.length cc,.int .i64 (s+1),.bool false] 33)
 have hDB:w.heap.size≤w6.heap.size:=HB.out.size
 replace CB:=hZq (upQ CB.out b7)
 replace FB:=hZq (upQ FB.out b7)
 replace RB:=hZq (upQ RB.out b7)
 replace HB:=hZq (below2Z HB.out b7)
 clear b7
 replace DB:=hZq DB
 generalize w6.alloc (.cells #[.slice ca t.length cc,.int .i64 (s+1),.bool false] 33)=w8 at CB FB RB DB HB ⊢
 generalize w6.heap.size=BD at DB hDB hRB hCB hFB ⊢
 clear hCB hFB
 have FBo:=blk10 FB.out
 have CBo:=blk3 CB.out
 have DBo:=blk3 DB.out
 go_upto_region 9 with fail
 clear FBo CBo DBo
 have DBz:=hZq (stS DB.out 2 (.bool true) [.slice ca t.length cc,.int .i64 (s+1),.bool true] rfl)
 have CBz:=hZq (stK CB.out (a:=⟨BD,2,none⟩) (u:=.bool true) (show ¬ w.heap.size=BD by omega))
 have FBz:=hZq (stK FB.out (a:=⟨BD,2,none⟩) (u:=.bool true) (show ¬ w.heap.size+1=BD by omega))
 have RBz:=hZq (stK RB.out (a:=⟨BD,2,none⟩) (u:=.bool true) (show ¬ w.heap.size+1+1=BD by omega))
 have HBz:=hZq (HB.out.setCell (p:=⟨BD,2,none⟩) (show w.heap.size≤BD by omega) (.bool true))
 clear HB CB FB RB DB
 generalize w8.setCell ⟨BD,2,none⟩ (.bool true)=w9 at CBz FBz RBz DBz HBz ⊢
 have CB:=CBz
 clear CBz
 have FB:=FBz
 clear FBz
 have RB:=RBz
 clear RBz
 have DB:=DBz
 clear DBz
 have HB:=HBz
 clear HBz
 have DBo:=blk3 DB.out
 have RBo:=blk3 RB.out
 go_wp2_with fail
 clear DBo RBo
 have hz:=stN3_heap RB.out (.slice ca t.length cc) (.int .i64 (s+1)) (.bool true)
 have hle:w.heap.size≤w.heap.size+1+1:=by omega
 obtain⟨⟨z0,z1,z2⟩,-⟩:=blk3 hz
 unfold stN3 at z0 z1 z2
 refine bodyPost_ret (v:=.agg #[.slice ca t.length cc,.int .i64 (s+1),.bool true]) (by simp [results,Tryz.results43,go_sem,z0,z1,z2]) rfl ?_
 exact⟨_,rfl,.inl ⟨rfl,rfl⟩,((HB.out.setCell hle _).setCell hle _).setCell hle _⟩

theorem rclfeed_2 {w:World} {v vt:Value} {t:List Row} {s sh pr si:Int} {on:Bool} {c st:List UInt8} {sum:Nat} {tt:List Row} (hv:Tab w v t) (hvt:Tab w vt tt) (n:Int) (hsT:Hid (Short t)) (hsh:Hid (Short tt)) (hc:c.length≤4294967296) (hst:st.length≤4294967296) (HC:Hid (clMay ⟨t,n,false⟩=true)) (HM:Hid (frMay ⟨2,s,on,c,⟨sh,pr,si,st⟩,sum,tt⟩=true)) (hns:n≤s∧0≤s∧s≤1099511627776) (hsn:s≤n) {z:Nat} (HZ:Hid (diSum t=z)) {r:Bool} (g:((z:Int) != (sum:Int))=r) :
  Calls Tryz.prog 43 #[.agg #[v,.int .i64 n,.bool false],.agg #[.int .i64 2,.int .i64 s,.bool on,.string ⟨c.toArray⟩,.int .i64 sh,.int .i64 pr,.int .i64 si,.string ⟨st.toArray⟩,.int .u64 sum,vt]] w fun e w' => ∃ u,e=.returned (.agg #[u,.int .i64 (s+1),.bool r])∧CT w' w.heap.size u v vt t t tt∧Below w.heap.size w w':=by
 have g2:decide (n < s)=false:=by rw [decide_eq_false_iff_not]; omega
 have g3:(2 == 3)=false:=by decide
 have g1:decide (s < n)=false:=by rw [decide_eq_false_iff_not]; omega
 have hw:IntKind.i64.wrap (s+1)=s+1:=IntWalk.i64_in _ (by omega)
 obtain⟨ca,cc,rfl,-⟩:=hv.open'
 obtain⟨ta,tc,rfl,-⟩:=hvt.open'
 have VA:=hZq (fun X (hX:Below w.heap.size w X) => hv.later hX)
 have VT:=hZq (fun X (hX:Below w.heap.size w X) => hvt.later hX)
 obtain⟨CB,FB,RB,HB⟩:=ent3 w (.cells #[.slice ca t.length cc,.int .i64 n,.bool false] 33) (.cells #[.int .i64 2,.int .i64 s,.bool on,.string ⟨c.toArray⟩,.int .i64 sh,.int .i64 pr,.int .i64 si,.string ⟨st.toArray⟩,.int .u64 sum,.slice ta tt.length tc] 56) (.cells #[.slice none 0 0,.int .i64 0,.bool false] 33)
 clear hv hvt
 go_enter Tryz.func43,Tryz.ntmps43
 have CBo:=blk3 CB.out
 go_wp2_with fail
 generalize ((w.alloc (.cells #[.slice ca t.length cc,.int .i64 n,.bool false] 33)).alloc (.cells #[.int .i64 2,.int .i64 s,.bool on,.string ⟨c.toArray⟩,.int .i64 sh,.int .i64 pr,.int .i64 si,.string ⟨st.toArray⟩,.int .u64 sum,.slice ta tt.length tc] 56)).alloc (.cells #[.slice none 0 0,.int .i64 0,.bool false] 33)=w4 at CB FB RB HB ⊢
 clear CBo
 refine (rclmay_eq (VA.out _ HB.out) hsT.out n false HC).mono ?_
 rintro e w5 ⟨rfl,b5⟩
 replace CB:=hZq (upQ CB.out b5)
 replace FB:=hZq (upQ FB.out b5)
 replace RB:=hZq (upQ RB.out b5)
 replace HB:=hZq (below2Z HB.out b5)
 clear b5
 have FBo:=blk10 FB.out
 go_wp2_with fail
 clear FBo
 refine (rfrmay_any (VT.out _ HB.out) hsh.out hc hst HM).mono ?_
 rintro e w6 ⟨rfl,b6⟩
 replace CB:=hZq (upQ CB.out b6)
 replace FB:=hZq (upQ FB.out b6)
 replace RB:=hZq (upQ RB.out b6)
 replace HB:=hZq (below2Z HB.out b6)
 clear b6
 have CBo:=blk3 CB.out
 have FBo:=blk10 FB.out
 have hRB:=(Array.getElem?_eq_some_iff.1 RB.out).1
 have hCB:=(Array.getElem?_eq_some_iff.1 CB.out).1
 have hFB:=(Array.getElem?_eq_some_iff.1 FB.out).1
 go_upto_region 4 with fail
 clear CBo FBo
 have b7:=bl_newZ w6 (.cells #[.slice ca t.length cc,.int .i64 (s+1),.bool false] 33)
 have DB:=newQ w6 (.cells #[.slice ca t.length cc,.int .i64 (s+1),.bool false] 33)
 have hDB:w.heap.size≤w6.heap.size:=HB.out.size
 replace CB:=hZq (upQ CB.out b7)
 replace FB:=hZq (upQ FB.out b7)
 replace RB:=hZq (upQ RB.out b7)
 replace HB:=hZq (below2Z HB.out b7)
 clear b7
 replace DB:=hZq DB
 generalize w6.alloc (.cells #[.slice ca t.length cc,.int .i64 (s+1),.bool false] 33)=w8 at CB FB RB DB HB ⊢
 generalize w6.heap.size=BD at DB hDB hRB hCB hFB ⊢
 clear hCB hFB
 have FBo:=blk10 FB.out
 have CBo:=blk3 CB.out
 have DBo:=blk3 DB.out
 go_upto_region 9 with fail
 clear FBo CBo DBo
 have DBz:=hZq (stS DB.out 2 (.bool false) [.slice ca t.length cc,.int .i64 (s+1),.bool false] rfl)
 have CBz:=hZq (stK CB.out (a:=⟨BD,2,none⟩) (u:=.bool false) (show ¬ w.heap.size=BD by omega))
 have FBz:=hZq (stK FB.out (a:=⟨BD,2,none⟩) (u:=.bool false) (show ¬ w.heap.size+1=BD by omega))
 have RBz:=hZq (stK RB.out (a:=⟨BD,2,none⟩) (u:=.bool false) (show ¬ w.heap.size+1+1=BD by omega))
 have HBz:=hZq (HB.out.setCell (p:=⟨BD,2,none⟩) (show w.heap.size≤BD by omega) (.bool false))
 clear HB CB FB RB DB
 generalize w8.setCell ⟨BD,2,none⟩ (.bool false)=w9 at CBz FBz RBz DBz HBz ⊢
 have CB:=CBz
 clear CBz
 have FB:=FBz
 clear FBz
 have RB:=RBz
 clear RBz
 have DB:=DBz
 clear DBz
 have HB:=HBz
 clear HBz
 have DBo:=blk3 DB.out
 have FBo:=blk10 FB.out
 go_upto_region 12 with fail
 clear DBo FBo
 obtain⟨BS,hBS⟩ : ∃ BS:List (Nat × List Value),BS=[(w.heap.size,[.slice ca t.length cc,.int .i64 n,.bool false]),(w.heap.size+1,[.int .i64 2,.int .i64 s,.bool on,.string ⟨c.toArray⟩,.int .i64 sh,.int .i64 pr,.int .i64 si,.string ⟨st.toArray⟩,.int .u64 sum,.slice ta tt.length tc]),(w.heap.size+1+1,[.slice none 0 0,.int .i64 0,.bool false])]:=⟨_,rfl⟩
 have D0:=hZq (show heldB w9 BS from by rw [hBS]; exact heldB_cons (cellsAt_block CB.out) (heldB_cons (cellsAt_block FB.out) (heldB_cons (cellsAt_block RB.out) (heldB_nil _))))
 have hL:=heldB_at (b:=w.heap.size) (vs:=[.slice ca t.length cc,.int .i64 n,.bool false]) (bs:=BS) (by rw [hBS]; simp)
 have hq0:=hL 0 _ rfl
 have hq1:=hL 1 _ rfl
 have hq2:=hL 2 _ rfl
 clear hL
 have hL:=heldB_at (b:=w.heap.size+1) (vs:=[.int .i64 2,.int .i64 s,.bool on,.string ⟨c.toArray⟩,.int .i64 sh,.int .i64 pr,.int .i64 si,.string ⟨st.toArray⟩,.int .u64 sum,.slice ta tt.length tc]) (bs:=BS) (by rw [hBS]; simp)
 have hq3:=hL 0 _ rfl
 have hq4:=hL 1 _ rfl
 have hq5:=hL 2 _ rfl
 have hq6:=hL 3 _ rfl
 have hq7:=hL 4 _ rfl
 have hq8:=hL 5 _ rfl
 have hq9:=hL 6 _ rfl
 have hq10:=hL 7 _ rfl
 have hq11:=hL 8 _ rfl
 have hq12:=hL 9 _ rfl
 clear hL
 have hL:=heldB_at (b:=w.heap.size+1+1) (vs:=[.slice none 0 0,.int .i64 0,.bool false]) (bs:=BS) (by rw [hBS]; simp)
 have hq13:=hL 0 _ rfl
 have hq14:=hL 1 _ rfl
 have hq15:=hL 2 _ rfl
 clear hL
 have hBN:Hid (∀ p ∈ BS,¬ p.1=BD):=hZq (by rw [hBS]; intro p hp; simp only [List.mem_cons,List.not_mem_nil,or_false] at hp; rcases hp with rfl | rfl | rfl <;> simp only <;> omega)
 clear hBS
 have K0:Hid (Below w9.heap.size w9 w9.drew):=hZq (Below.refl _ _).drew
 refine wp_region_held_drew (S:=(fun X => heldB X BS)) (by kernel_rfl) ?_ (fun hHeld => ?_)
 ·exact heldB_up K0.out D0.out
 generalize w9.drew=z0 at K0 hHeld ⊢
 refine tkZ 0 ?_
 refine tkZ 1 ?_
 refine tkZ 3 ?_
 refine tkZ 4 ?_
 refine wpAnyH_ready (rs:=[2]) (by as_aux_lemma => kernel_rfl) (by simp) ?_
 refine AllReadyH.cons rfl (fun Kx hK => ?_) AllReadyH.nil
 go_simp
 refine (rsum_eqC (VA.out _ (below2Z HB.out (K0.out))) hsT.out HZ).mono ?_
 rintro e z1001 ⟨rfl,bz1001⟩
 have K1001:=hZq (below2Z K0.out bz1001)
 have D1001:=hZq (heldB_up K1001.out D0.out)
 clear bz1001
 go_wp2_with fail
 refine hK.out _ _ ?_ (fun hHeld2 => ?_)
 ·exact D1001.out
 clear hK Kx hHeld
 have hHeld:=hHeld2
 clear hHeld2
 try simp only [Act.put,List.setIfInBounds_toArray,List.set_cons_zero,List.set_cons_succ]
 refine tkZ 5 ?_
 refine tkZ 6 ?_
 obtain⟨⟨q0,q1,q2⟩,⟨g0,g1,g2⟩⟩:=blk3 (upQ DB.out (K1001.out))
 refine wpAnyH_ready (rs:=[7]) (by as_aux_lemma => kernel_rfl) (by simp) ?_
 refine AllReadyH.cons rfl (fun Kx hK => ?_) AllReadyH.nil
 go_simp
 clear q0 q1 q2 g0 g1 g2
 have DBz:Hid ((z1001.setCell ⟨BD,2,none⟩ (.bool r)).heap[BD]?=some (.cells #[.slice ca t.length cc,.int .i64 (s+1),.bool r] 33 (0,0))):=hZq (heap_setCell_same z1001 BD 2 _ _ (.bool r) (upQ DB.out (K1001.out)))
 have CBz:Hid ((z1001.setCell ⟨BD,2,none⟩ (.bool r)).heap[w.heap.size]?=some (.cells #[.slice ca t.length cc,.int .i64 n,.bool false] 33 (0,0))):=hZq ((Below.heap_setCell _ _ _ (w.heap.size) (show ¬ w.heap.size=BD by omega)).trans (upQ CB.out (K1001.out)))
 have FBz:Hid ((z1001.setCell ⟨BD,2,none⟩ (.bool r)).heap[w.heap.size+1]?=some (.cells #[.int .i64 2,.int .i64 s,.bool on,.string ⟨c.toArray⟩,.int .i64 sh,.int .i64 pr,.int .i64 si,.string ⟨st.toArray⟩,.int .u64 sum,.slice ta tt.length tc] 56 (0,0))):=hZq ((Below.heap_setCell _ _ _ (w.heap.size+1) (show ¬ w.heap.size+1=BD by omega)).trans (upQ FB.out (K1001.out)))
 have RBz:Hid ((z1001.setCell ⟨BD,2,none⟩ (.bool r)).heap[w.heap.size+1+1]?=some (.cells #[.slice none 0 0,.int .i64 0,.bool false] 33 (0,0))):=hZq ((Below.heap_setCell _ _ _ (w.heap.size+1+1) (show ¬ w.heap.size+1+1=BD by omega)).trans (upQ RB.out (K1001.out)))
 have HBz:Hid (Below w.heap.size w (z1001.setCell ⟨BD,2,none⟩ (.bool r))):=hZq ((below2Z HB.out (K1001.out)).setCell (show w.heap.size≤BD by omega) _)
 have HLD:Hid (heldB (z1001.setCell ⟨BD,2,none⟩ (.bool r)) BS):=hZq (heldB_farF (heldB_up (K1001.out) D0.out) (fun k hk => Below.heap_setCell _ _ _ k hk) hBN.out)
 refine hK.out _ _ ?_ (fun hHeld2 => ?_)
 ·exact HLD.out
 clear hK Kx hHeld HLD
 have hHeld:=hHeld2
 clear hHeld2
 generalize z1001.setCell ⟨BD,2,none⟩ (.bool r)=zs at DBz CBz FBz RBz HBz hHeld ⊢
 refine wpAnyH_done (by kernel_rfl) ?_ _
 clear CB FB RB HB DB
 have DB:=DBz
 have RB:=RBz
 have HB:=HBz
 clear DBz RBz HBz
 have DBo:=blk3 DB.out
 have RBo:=blk3 RB.out
 go_wp2_with fail
 clear DBo RBo
 have hz:=stN3_heap RB.out (.slice ca t.length cc) (.int .i64 (s+1)) (.bool r)
 have hle:w.heap.size≤w.heap.size+1+1:=by omega
 obtain⟨⟨z0,z1,z2⟩,-⟩:=blk3 hz
 unfold stN3 at z0 z1 z2
 refine bodyPost_ret (v:=.agg #[.slice ca t.length cc,.int .i64 (s+1),.bool r]) (by simp [results,Tryz.results43,go_sem,z0,z1,z2]) rfl ?_
 exact⟨_,rfl,.inl ⟨rfl,rfl⟩,((HB.out.setCell hle _).setCell hle _).setCell hle _⟩

theorem rclfeed_1n {w:World} {v vt:Value} {t:List Row} {s sh pr si:Int} {on:Bool} {c st:List UInt8} {sum:Nat} {tt:List Row} (hv:Tab w v t) (hvt:Tab w vt tt) (n:Int) (hsT:Hid (Short t)) (hsh:Hid (Short tt)) (hc:c.length≤4294967296) (hst:st.length≤4294967296) (HC:Hid (clMay ⟨t,n,false⟩=true)) (HM:Hid (frMay ⟨1,s,on,c,⟨sh,pr,si,st⟩,sum,tt⟩=true)) (hns:n≤s∧0≤s∧s≤1099511627776) (hsn:s≤n) (hl:t.length≤1000) (hset:Short (diSet t ⟨c,on,⟨sh,pr,si,st⟩⟩)) (HS:Hid (diMay (diSet t ⟨c,on,⟨sh,pr,si,st⟩⟩)=false)) :
  Calls Tryz.prog 43 #[.agg #[v,.int .i64 n,.bool false],.agg #[.int .i64 1,.int .i64 s,.bool on,.string ⟨c.toArray⟩,.int .i64 sh,.int .i64 pr,.int .i64 si,.string ⟨st.toArray⟩,.int .u64 sum,vt]] w fun e w' => ∃ u,e=.returned (.agg #[u,.int .i64 (s+1),.bool true])∧CT w' w.heap.size u v vt t t tt∧Below w.heap.size w w':=by
 have g2:decide (n < s)=false:=by rw [decide_eq_false_iff_not]; omega
 have g3:(1 == 3)=false:=by decide
 have g1:decide (s < n)=false:=by rw [decide_eq_false_iff_not]; omega
 have hw:IntKind.i64.wrap (s+1)=s+1:=IntWalk.i64_in _ (by omega)
 obtain⟨ca,cc,rfl,-⟩:=hv.open'
 obtain⟨ta,tc,rfl,-⟩:=hvt.open'
 have VA:=hZq (fun X (hX:Below w.heap.size w X) => hv.later hX)
 have VT:=hZq (fun X (hX:Below w.heap.size w X) => hvt.later hX)
 obtain⟨CB,FB,RB,HB⟩:=ent3 w (.cells #[.slice ca t.length cc,.int .i64 n,.bool false] 33) (.cells #[.int .i64 1,.int .i64 s,.bool on,.string ⟨c.toArray⟩,.int .i64 sh,.int .i64 pr,.int .i64 si,.string ⟨st.toArray⟩,.int .u64 sum,.slice ta tt.length tc] 56) (.cells #[.slice none 0 0,.int .i64 0,.bool false] 33)
 clear hv hvt
 go_enter Tryz.func43,Tryz.ntmps43
 have CBo:=blk3 CB.out
 go_wp2_with fail
 generalize ((w.alloc (.cells #[.slice ca t.length cc,.int .i64 n,.bool false] 33)).alloc (.cells #[.int .i64 1,.int .i64 s,.bool on,.string ⟨c.toArray⟩,.int .i64 sh,.int .i64 pr,.int .i64 si,.string ⟨st.toArray⟩,.int .u64 sum,.slice ta tt.length tc] 56)).alloc (.cells #[.slice none 0 0,.int .i64 0,.bool false] 33)=w4 at CB FB RB HB ⊢
 clear CBo
 refine (rclmay_eq (VA.out _ HB.out) hsT.out n false HC).mono ?_
 rintro e w5 ⟨rfl,b5⟩
 replace CB:=hZq (upQ CB.out b5)
 replace FB:=hZq (upQ FB.out b5)
 replace RB:=hZq (upQ RB.out b5)
 replace HB:=hZq (below2Z HB.out b5)
 clear b5
 have FBo:=blk10 FB.out
 go_wp2_with fail
 clear FBo
 refine (rfrmay_any (VT.out _ HB.out) hsh.out hc hst HM).mono ?_
 rintro e w6 ⟨rfl,b6⟩
 replace CB:=hZq (upQ CB.out b6)
 replace FB:=hZq (upQ FB.out b6)
 replace RB:=hZq (upQ RB.out b6)
 replace HB:=hZq (below2Z HB.out b6)
 clear b6
 have CBo:=blk3 CB.out
 have FBo:=blk10 FB.out
 have hRB:=(Array.getElem?_eq_some_iff.1 RB.out).1
 have hCB:=(Array.getElem?_eq_some_iff.1 CB.out).1
 have hFB:=(Array.getElem?_eq_some_iff.1 FB.out).1
 go_upto_region 4 with fail
 clear CBo FBo
 have b7:=bl_newZ w6 (.cells #[.slice ca t.length cc,.int .i64 (s+1),.bool false] 33)
 have DB:=newQ w6 (.cells #[.slice ca t.length cc,.int .i64 (s+1),.bool false] 33)
 have hDB:w.heap.size≤w6.heap.size:=HB.out.size
 replace CB:=hZq (upQ CB.out b7)
 replace FB:=hZq (upQ FB.out b7)
 replace RB:=hZq (upQ RB.out b7)
 replace HB:=hZq (below2Z HB.out b7)
 clear b7
 replace DB:=hZq DB
 generalize w6.alloc (.cells #[.slice ca t.length cc,.int .i64 (s+1),.bool false] 33)=w8 at CB FB RB DB HB ⊢
 generalize w6.heap.size=BD at DB hDB hRB hCB hFB ⊢
 clear hCB hFB
 have FBo:=blk10 FB.out
 have CBo:=blk3 CB.out
 have DBo:=blk3 DB.out
 go_upto_region 9 with fail
 clear FBo CBo DBo
 have DBz:=hZq (stS DB.out 2 (.bool false) [.slice ca t.length cc,.int .i64 (s+1),.bool false] rfl)
 have CBz:=hZq (stK CB.out (a:=⟨BD,2,none⟩) (u:=.bool false) (show ¬ w.heap.size=BD by omega))
 have FBz:=hZq (stK FB.out (a:=⟨BD,2,none⟩) (u:=.bool false) (show ¬ w.heap.size+1=BD by omega))
 have RBz:=hZq (stK RB.out (a:=⟨BD,2,none⟩) (u:=.bool false) (show ¬ w.heap.size+1+1=BD by omega))
 have HBz:=hZq (HB.out.setCell (p:=⟨BD,2,none⟩) (show w.heap.size≤BD by omega) (.bool false))
 clear HB CB FB RB DB
 generalize w8.setCell ⟨BD,2,none⟩ (.bool false)=w9 at CBz FBz RBz DBz HBz ⊢
 have CB:=CBz
 clear CBz
 have FB:=FBz
 clear FBz
 have RB:=RBz
 clear RBz
 have DB:=DBz
 clear DBz
 have HB:=HBz
 clear HBz
 have DBo:=blk3 DB.out
 have FBo:=blk10 FB.out
 have CBo:=blk3 CB.out
 go_wp2_with fail
 clear DBo FBo CBo
 have hDD:=(Array.getElem?_eq_some_iff.1 DB.out).1
 refine (rset_eqC (VA.out _ HB.out) hl c st on sh pr si).mono ?_
 rintro e w10 ⟨u10,rfl,hu10,b10⟩
 replace CB:=hZq (upQ CB.out b10)
 replace FB:=hZq (upQ FB.out b10)
 replace RB:=hZq (upQ RB.out b10)
 replace DB:=hZq (upQ DB.out b10)
 replace HB:=hZq (below2Z HB.out b10)
 obtain⟨ua,uc,rfl,-⟩:=Tab.open' (OwnR.tab hu10)
 have U:=hZq (OwnR.mono hu10 (show BD+1≤_ from hDD))
 clear hu10 hDD
 clear b10
 go_wp2_with fail
 refine (rdimay_eq (OwnR.tab U.out) hset HS).mono ?_
 rintro e w11 ⟨rfl,b11⟩
 replace CB:=hZq (upQ CB.out b11)
 replace FB:=hZq (upQ FB.out b11)
 replace RB:=hZq (upQ RB.out b11)
 replace DB:=hZq (upQ DB.out b11)
 replace U:=hZq (OwnR.later U.out b11)
 replace HB:=hZq (below2Z HB.out b11)
 clear b11
 have DBo:=blk3 DB.out
 go_upto_region 17 with fail
 clear DBo
 have DBz:=hZq (stS DB.out 2 (.bool true) [.slice ca t.length cc,.int .i64 (s+1),.bool true] rfl)
 have CBz:=hZq (stK CB.out (a:=⟨BD,2,none⟩) (u:=.bool true) (show ¬ w.heap.size=BD by omega))
 have FBz:=hZq (stK FB.out (a:=⟨BD,2,none⟩) (u:=.bool true) (show ¬ w.heap.size+1=BD by omega))
 have RBz:=hZq (stK RB.out (a:=⟨BD,2,none⟩) (u:=.bool true) (show ¬ w.heap.size+1+1=BD by omega))
 have HBz:=hZq (HB.out.setCell (p:=⟨BD,2,none⟩) (show w.heap.size≤BD by omega) (.bool true))
 have Uz:=hZq (OwnR.setCell (a:=⟨BD,2,none⟩) U.out (show BD < BD+1 by omega) (.bool true))
 clear HB CB FB RB DB U
 generalize w11.setCell ⟨BD,2,none⟩ (.bool true)=w12 at CBz FBz RBz DBz Uz HBz ⊢
 have CB:=CBz
 clear CBz
 have FB:=FBz
 clear FBz
 have RB:=RBz
 clear RBz
 have DB:=DBz
 clear DBz
 have U:=Uz
 clear Uz
 have HB:=HBz
 clear HBz
 have DBo:=blk3 DB.out
 have RBo:=blk3 RB.out
 go_wp2_with fail
 clear DBo RBo
 have hz:=stN3_heap RB.out (.slice ca t.length cc) (.int .i64 (s+1)) (.bool true)
 have hle:w.heap.size≤w.heap.size+1+1:=by omega
 obtain⟨⟨z0,z1,z2⟩,-⟩:=blk3 hz
 unfold stN3 at z0 z1 z2
 refine bodyPost_ret (v:=.agg #[.slice ca t.length cc,.int .i64 (s+1),.bool true]) (by simp [results,Tryz.results43,go_sem,z0,z1,z2]) rfl ?_
 exact⟨_,rfl,.inl ⟨rfl,rfl⟩,((HB.out.setCell hle _).setCell hle _).setCell hle _⟩

theorem rclfeed_1y {w:World} {v vt:Value} {t:List Row} {s sh pr si:Int} {on:Bool} {c st:List UInt8} {sum:Nat} {tt:List Row} (hv:Tab w v t) (hvt:Tab w vt tt) (n:Int) (hsT:Hid (Short t)) (hsh:Hid (Short tt)) (hc:c.length≤4294967296) (hst:st.length≤4294967296) (HC:Hid (clMay ⟨t,n,false⟩=true)) (HM:Hid (frMay ⟨1,s,on,c,⟨sh,pr,si,st⟩,sum,tt⟩=true)) (hns:n≤s∧0≤s∧s≤1099511627776) (hsn:s≤n) (hl:t.length≤1000) (hset:Short (diSet t ⟨c,on,⟨sh,pr,si,st⟩⟩)) (HS:Hid (diMay (diSet t ⟨c,on,⟨sh,pr,si,st⟩⟩)=true)) :
  Calls Tryz.prog 43 #[.agg #[v,.int .i64 n,.bool false],.agg #[.int .i64 1,.int .i64 s,.bool on,.string ⟨c.toArray⟩,.int .i64 sh,.int .i64 pr,.int .i64 si,.string ⟨st.toArray⟩,.int .u64 sum,vt]] w fun e w' => ∃ u,e=.returned (.agg #[u,.int .i64 (s+1),.bool false])∧CT w' w.heap.size u v vt (diSet t ⟨c,on,⟨sh,pr,si,st⟩⟩) t tt∧Below w.heap.size w w':=by
 have g2:decide (n < s)=false:=by rw [decide_eq_false_iff_not]; omega
 have g3:(1 == 3)=false:=by decide
 have g1:decide (s < n)=false:=by rw [decide_eq_false_iff_not]; omega
 have hw:IntKind.i64.wrap (s+1)=s+1:=IntWalk.i64_in _ (by omega)
 obtain⟨ca,cc,rfl,-⟩:=hv.open'
 obtain⟨ta,tc,rfl,-⟩:=hvt.open'
 have VA:=hZq (fun X (hX:Below w.heap.size w X) => hv.later hX)
 have VT:=hZq (fun X (hX:Below w.heap.size w X) => hvt.later hX)
 obtain⟨CB,FB,RB,HB⟩:=ent3 w (.cells #[.slice ca t.length cc,.int .i64 n,.bool false] 33) (.cells #[.int .i64 1,.int .i64 s,.bool on,.string ⟨c.toArray⟩,.int .i64 sh,.int .i64 pr,.int .i64 si,.string ⟨st.toArray⟩,.int .u64 sum,.slice ta tt.length tc] 56) (.cells #[.slice none 0 0,.int .i64 0,.bool false] 33)
 clear hv hvt
 go_enter Tryz.func43,Tryz.ntmps43
 have CBo:=blk3 CB.out
 go_wp2_with fail
 generalize ((w.alloc (.cells #[.slice ca t.length cc,.int .i64 n,.bool false] 33)).alloc (.cells #[.int .i64 1,.int .i64 s,.bool on,.string ⟨c.toArray⟩,.int .i64 sh,.int .i64 pr,.int .i64 si,.string ⟨st.toArray⟩,.int .u64 sum,.slice ta tt.length tc] 56)).alloc (.cells #[.slice none 0 0,.int .i64 0,.bool false] 33)=w4 at CB FB RB HB ⊢
 clear CBo
 refine (rclmay_eq (VA.out _ HB.out) hsT.out n false HC).mono ?_
 rintro e w5 ⟨rfl,b5⟩
 replace CB:=hZq (upQ CB.out b5)
 replace FB:=hZq (upQ FB.out b5)
 replace RB:=hZq (upQ RB.out b5)
 replace HB:=hZq (below2Z HB.out b5)
 clear b5
 have FBo:=blk10 FB.out
 go_wp2_with fail
 clear FBo
 refine (rfrmay_any (VT.out _ HB.out) hsh.out hc hst HM).mono ?_
 rintro e w6 ⟨rfl,b6⟩
 replace CB:=hZq (upQ CB.out b6)
 replace FB:=hZq (upQ FB.out b6)
 replace RB:=hZq (upQ RB.out b6)
 replace HB:=hZq (below2Z HB.out b6)
 clear b6
 have CBo:=blk3 CB.out
 have FBo:=blk10 FB.out
 have hRB:=(Array.getElem?_eq_some_iff.1 RB.out).1
 have hCB:=(Array.getElem?_eq_some_iff.1 CB.out).1
 have hFB:=(Array.getElem?_eq_some_iff.1 FB.out).1
 go_upto_region 4 with fail
 clear CBo FBo
 have b7:=bl_newZ w6 (.cells #[.slice ca t.length cc,.int .i64 (s+1),.bool false] 33)
 have DB:=newQ w6 (.cells #[.slice ca t.length cc,.int .i64 (s+1),.bool false] 33)
 have hDB:w.heap.size≤w6.heap.size:=HB.out.size
 replace CB:=hZq (upQ CB.out b7)
 replace FB:=hZq (upQ FB.out b7)
 replace RB:=hZq (upQ RB.out b7)
 replace HB:=hZq (below2Z HB.out b7)
 clear b7
 replace DB:=hZq DB
 generalize w6.alloc (.cells #[.slice ca t.length cc,.int .i64 (s+1),.bool false] 33)=w8 at CB FB RB DB HB ⊢
 generalize w6.heap.size=BD at DB hDB hRB hCB hFB ⊢
 clear hCB hFB
 have FBo:=blk10 FB.out
 have CBo:=blk3 CB.out
 have DBo:=blk3 DB.out
 go_upto_region 9 with fail
 clear FBo CBo DBo
 have DBz:=hZq (stS DB.out 2 (.bool false) [.slice ca t.length cc,.int .i64 (s+1),.bool false] rfl)
 have CBz:=hZq (stK CB.out (a:=⟨BD,2,none⟩) (u:=.bool false) (show ¬ w.heap.size=BD by omega))
 have FBz:=hZq (stK FB.out (a:=⟨BD,2,none⟩) (u:=.bool false) (show ¬ w.heap.size+1=BD by omega))
 have RBz:=hZq (stK RB.out (a:=⟨BD,2,none⟩) (u:=.bool false) (show ¬ w.heap.size+1+1=BD by omega))
 have HBz:=hZq (HB.out.setCell (p:=⟨BD,2,none⟩) (show w.heap.size≤BD by omega) (.bool false))
 clear HB CB FB RB DB
 generalize w8.setCell ⟨BD,2,none⟩ (.bool false)=w9 at CBz FBz RBz DBz HBz ⊢
 have CB:=CBz
 clear CBz
 have FB:=FBz
 clear FBz
 have RB:=RBz
 clear RBz
 have DB:=DBz
 clear DBz
 have HB:=HBz
 clear HBz
 have DBo:=blk3 DB.out
 have FBo:=blk10 FB.out
 have CBo:=blk3 CB.out
 go_wp2_with fail
 clear DBo FBo CBo
 have hDD:=(Array.getElem?_eq_some_iff.1 DB.out).1
 refine (rset_eqC (VA.out _ HB.out) hl c st on sh pr si).mono ?_
 rintro e w10 ⟨u10,rfl,hu10,b10⟩
 replace CB:=hZq (upQ CB.out b10)
 replace FB:=hZq (upQ FB.out b10)
 replace RB:=hZq (upQ RB.out b10)
 replace DB:=hZq (upQ DB.out b10)
 replace HB:=hZq (below2Z HB.out b10)
 obtain⟨ua,uc,rfl,-⟩:=Tab.open' (OwnR.tab hu10)
 have U:=hZq (OwnR.mono hu10 (show BD+1≤_ from hDD))
 clear hu10 hDD
 clear b10
 go_wp2_with fail
 refine (rdimay_eq (OwnR.tab U.out) hset HS).mono ?_
 rintro e w11 ⟨rfl,b11⟩
 replace CB:=hZq (upQ CB.out b11)
 replace FB:=hZq (upQ FB.out b11)
 replace RB:=hZq (upQ RB.out b11)
 replace DB:=hZq (upQ DB.out b11)
 replace U:=hZq (OwnR.later U.out b11)
 replace HB:=hZq (below2Z HB.out b11)
 clear b11
 have DBo:=blk3 DB.out
 go_upto_region 19 with fail
 clear DBo
 have DBz:=hZq (stS DB.out 0 (.slice ua (diSet t ⟨c,on,⟨sh,pr,si,st⟩⟩).length uc) [.slice ua (diSet t ⟨c,on,⟨sh,pr,si,st⟩⟩).length uc,.int .i64 (s+1),.bool false] rfl)
 have CBz:=hZq (stK CB.out (a:=⟨BD,0,none⟩) (u:=.slice ua (diSet t ⟨c,on,⟨sh,pr,si,st⟩⟩).length uc) (show ¬ w.heap.size=BD by omega))
 have FBz:=hZq (stK FB.out (a:=⟨BD,0,none⟩) (u:=.slice ua (diSet t ⟨c,on,⟨sh,pr,si,st⟩⟩).length uc) (show ¬ w.heap.size+1=BD by omega))
 have RBz:=hZq (stK RB.out (a:=⟨BD,0,none⟩) (u:=.slice ua (diSet t ⟨c,on,⟨sh,pr,si,st⟩⟩).length uc) (show ¬ w.heap.size+1+1=BD by omega))
 have HBz:=hZq (HB.out.setCell (p:=⟨BD,0,none⟩) (show w.heap.size≤BD by omega) (.slice ua (diSet t ⟨c,on,⟨sh,pr,si,st⟩⟩).length uc))
 have Uz:=hZq (OwnR.setCell (a:=⟨BD,0,none⟩) U.out (show BD < BD+1 by omega) (.slice ua (diSet t ⟨c,on,⟨sh,pr,si,st⟩⟩).length uc))
 clear HB CB FB RB DB U
 generalize w11.setCell ⟨BD,0,none⟩ (.slice ua (diSet t ⟨c,on,⟨sh,pr,si,st⟩⟩).length uc)=w12 at CBz FBz RBz DBz Uz HBz ⊢
 have CB:=CBz
 clear CBz
 have FB:=FBz
 clear FBz
 have RB:=RBz
 clear RBz
 have DB:=DBz
 clear DBz
 have U:=Uz
 clear Uz
 have HB:=HBz
 clear HBz
 have DBo:=blk3 DB.out
 have RBo:=blk3 RB.out
 go_wp2_with fail
 clear DBo RBo
 have hz:=stN3_heap RB.out (.slice ua (diSet t ⟨c,on,⟨sh,pr,si,st⟩⟩).length uc) (.int .i64 (s+1)) (.bool false)
 have hle:w.heap.size≤w.heap.size+1+1:=by omega
 obtain⟨⟨z0,z1,z2⟩,-⟩:=blk3 hz
 unfold stN3 at z0 z1 z2
 refine bodyPost_ret (v:=.agg #[.slice ua (diSet t ⟨c,on,⟨sh,pr,si,st⟩⟩).length uc,.int .i64 (s+1),.bool false]) (by simp [results,Tryz.results43,go_sem,z0,z1,z2]) rfl ?_
 have hlt:w.heap.size+1+1 < BD+1:=by omega
 exact⟨_,rfl,.inr (.inr (OwnR.mono (((U.out.setCell hlt _).setCell hlt _).setCell hlt _) (by omega))),((HB.out.setCell hle _).setCell hle _).setCell hle _⟩

theorem rclfeed_any {w:World} {v vt:Value} {t:List Row} {k s sh pr si:Int} {on:Bool} {c st:List UInt8} {sum:Nat} {tt:List Row} (hv:Tab w v t) (hvt:Tab w vt tt) (n:Int) (o:Bool) (hsT:Short t) (hsh:Short tt) (hc:c.length≤4294967296) (hst:st.length≤4294967296) (hl:t.length≤1000) {t2:List Row} {n2:Int} {o2:Bool} (h:Hid (clFeed ⟨t,n,o⟩ ⟨k,s,on,c,⟨sh,pr,si,st⟩,sum,tt⟩=⟨t2,n2,o2⟩)) :
  Calls Tryz.prog 43 #[.agg #[v,.int .i64 n,.bool o],.agg #[.int .i64 k,.int .i64 s,.bool on,.string ⟨c.toArray⟩,.int .i64 sh,.int .i64 pr,.int .i64 si,.string ⟨st.toArray⟩,.int .u64 sum,vt]] w fun e w' => ∃ u,e=.returned (.agg #[u,.int .i64 n2,.bool o2])∧CT w' w.heap.size u v vt t2 t tt∧Below w.heap.size w w':=by
 have h:=h.out
 have keep:clTakes ⟨t,n,o⟩ ⟨k,s,on,c,⟨sh,pr,si,st⟩,sum,tt⟩=false→t2=t∧n2=n∧o2=o:=fun ht => by
  unfold clFeed at h
  rw [if_neg (by rw [ht]; decide)] at h
  simp only [Cli.mk.injEq] at h
  exact⟨h.1.symm,h.2.1.symm,h.2.2.symm⟩
 cases hcm:clMay ⟨t,n,o⟩ with
 | false =>
  obtain⟨rfl,rfl,rfl⟩:=keep (by unfold clTakes; rw [hcm]; simp)
  exact rclfeed_c hv hvt n2 o2 (hZq hsT) (hZq hsh) hc hst (hZq hcm)
 | true =>
 cases hm:frMay ⟨k,s,on,c,⟨sh,pr,si,st⟩,sum,tt⟩ with
 | false =>
  obtain⟨rfl,rfl,rfl⟩:=keep (by unfold clTakes; rw [hm]; rfl)
  exact rclfeed_f hv hvt n2 o2 (hZq hsT) (hZq hsh) hc hst (hZq hcm) (hZq hm)
 | true =>
 by_cases hk4:k=4
 ·subst hk4
  obtain⟨rfl,rfl,rfl⟩:=keep (by unfold clTakes; simp)
  exact rclfeed_r hv hvt n2 o2 (hZq hsT) (hZq hsh) hc hst (hZq hcm) (hZq hm)
 by_cases hlt:s < n
 ·obtain⟨rfl,rfl,rfl⟩:=keep (by unfold clTakes; simp; intros; omega)
  exact rclfeed_s hv hvt n2 o2 (hZq hsT) (hZq hsh) hc hst hk4 (hZq hcm) (hZq hm) hlt
 have hd:clDo ⟨t,n,o⟩ ⟨k,s,on,c,⟨sh,pr,si,st⟩,sum,tt⟩=⟨t2,n2,o2⟩:=by
  unfold clFeed at h
  rwa [if_pos (clTakes_of hm hk4 hcm (by show n≤s; omega))] at h
 have ho:=frMay_iff.1 hm
 have hss:n≤s∧0≤s∧s≤1099511627776:=⟨by omega,ho.s0,ho.s1⟩
 have hk1:1≤k:=ho.k1
 have hk44:k≤4:=ho.k4
 unfold clDo at hd
 by_cases h3:k=3
 ·subst h3
  rw [if_pos rfl] at hd
  simp only [Cli.mk.injEq] at hd
  obtain⟨rfl,rfl,rfl⟩:=hd
  exact rclfeed_3 hv hvt n o (hZq hsT) (hZq hsh) hc hst (hZq hcm) (hZq hm) hss
 rw [if_neg (by exact h3)] at hd
 cases ho2:(o || decide (n < s)) with
 | true =>
  rw [if_pos ho2] at hd
  simp only [Cli.mk.injEq] at hd
  obtain⟨rfl,rfl,rfl⟩:=hd
  cases o with
  | true => exact rclfeed_o1 hv hvt n (hZq hsT) (hZq hsh) hc hst h3 hk4 (hZq hcm) (hZq hm) hss
  | false => exact rclfeed_o2 hv hvt n (hZq hsT) (hZq hsh) hc hst h3 hk4 (by simpa using ho2) (hZq hcm) (hZq hm) hss
 | false =>
  rw [if_neg (by show ¬ (o || decide (n < s))=true; rw [ho2]; decide)] at hd
  simp only [Bool.or_eq_false_iff,decide_eq_false_iff_not] at ho2
  obtain⟨rfl,hsn⟩:=ho2
  by_cases h2:k=2
  ·subst h2
   rw [if_pos rfl] at hd
   simp only [Cli.mk.injEq] at hd
   obtain⟨rfl,rfl,rfl⟩:=hd
   refine rclfeed_2 hv hvt n (hZq hsT) (hZq hsh) hc hst (hZq hcm) (hZq hm) hss (by omega) (z:=diSum t) (hZq rfl) ?_
   rw [Bool.eq_iff_iff]
   simp [Int.ofNat_inj]
  ·obtain rfl:k=1:=by omega
   rw [if_neg (by show ¬ (1:Int)=2; decide)] at hd
   simp only at hd
   cases hms:diMay (diSet t ⟨c,on,⟨sh,pr,si,st⟩⟩) with
   | false =>
    rw [if_neg (by rw [hms]; decide)] at hd
    simp only [Cli.mk.injEq] at hd
    obtain⟨rfl,rfl,rfl⟩:=hd
    exact rclfeed_1n hv hvt n (hZq hsT) (hZq hsh) hc hst (hZq hcm) (hZq hm) hss (by omega) hl (clset_short hsT hc hst) (hZq hms)
   | true =>
    rw [if_pos hms] at hd
    simp only [Cli.mk.injEq] at hd
    obtain⟨rfl,rfl,rfl⟩:=hd
    exact rclfeed_1y hv hvt n (hZq hsT) (hZq hsh) hc hst (hZq hcm) (hZq hm) hss (by omega) hl (clset_short hsT hc hst) (hZq hms)

theorem rclask_a {w:World} {v:Value} {t:List Row} (hv:Tab w v t) (n:Int) (hs:Short t) (HC:Hid (clMay ⟨t,n,false⟩=true)) :
  Calls Tryz.prog 44 #[.agg #[v,.int .i64 n,.bool false]] w fun e w' => e=.returned (.tuple #[.string ⟨([]:List UInt8).toArray⟩,.bool false])∧Below w.heap.size w w':=by
 obtain⟨ca,cc,rfl,-⟩:=hv.open'
 obtain⟨CB,HB⟩:=ent1 w (.cells #[.slice ca t.length cc,.int .i64 n,.bool false] 33)
 have VA:=hZq (hv.later HB.out)
 clear hv
 go_enter Tryz.func44,Tryz.ntmps44
 have CBo:=blk3 CB.out
 go_wp2_with fail
 clear CBo
 refine (rclmay_eq VA.out hs _ false HC).mono ?_
 rintro e w2 ⟨rfl,b2⟩
 replace CB:=hZq (upQ CB.out b2)
 replace VA:=hZq (VA.out.later b2)
 replace HB:=hZq (below2Z HB.out b2)
 clear b2
 have CBo:=blk3 CB.out
 go_wp2_with fail
 clear CBo
 go_wp2_with fail
 go_ret2
 exact⟨rfl,HB.out⟩

theorem rclask_b {w:World} {v:Value} {t:List Row} (hv:Tab w v t) (n:Int) (hs:Short t) (o:Bool) (HC:Hid (clMay ⟨t,n,o⟩=false)) :
  Calls Tryz.prog 44 #[.agg #[v,.int .i64 n,.bool o]] w fun e w' => e=.returned (.tuple #[.string ⟨([]:List UInt8).toArray⟩,.bool false])∧Below w.heap.size w w':=by
 obtain⟨ca,cc,rfl,-⟩:=hv.open'
 obtain⟨CB,HB⟩:=ent1 w (.cells #[.slice ca t.length cc,.int .i64 n,.bool o] 33)
 have VA:=hZq (hv.later HB.out)
 clear hv
 go_enter Tryz.func44,Tryz.ntmps44
 have CBo:=blk3 CB.out
 go_wp2_with fail
 clear CBo
 refine (rclmay_eq VA.out hs _ o HC).mono ?_
 rintro e w2 ⟨rfl,b2⟩
 replace CB:=hZq (upQ CB.out b2)
 replace VA:=hZq (VA.out.later b2)
 replace HB:=hZq (below2Z HB.out b2)
 clear b2
 go_wp2_with fail
 go_ret2
 exact⟨rfl,HB.out⟩

theorem rclask_c {w:World} {v:Value} {t:List Row} (hv:Tab w v t) (n:Int) (hs:Short t) (hn:n≤1099511627776) (HC:Hid (clMay ⟨t,n,true⟩=true)) {l:List UInt8} (HE:Hid (frEnc ⟨4,n,false,[],⟨0,0,0,[]⟩,0,[]⟩=(l,0))) :
  Calls Tryz.prog 44 #[.agg #[v,.int .i64 n,.bool true]] w fun e w' => e=.returned (.tuple #[.string ⟨l.toArray⟩,.bool true])∧Below w.heap.size w w':=by
 have hmin:min n 1099511627776=n:=by omega
 clear hn
 obtain⟨ca,cc,rfl,-⟩:=hv.open'
 obtain⟨CB,HB⟩:=ent1 w (.cells #[.slice ca t.length cc,.int .i64 n,.bool true] 33)
 have VA:=hZq (hv.later HB.out)
 clear hv
 go_enter Tryz.func44,Tryz.ntmps44
 have CBo:=blk3 CB.out
 go_wp2_with fail
 clear CBo
 refine (rclmay_eq VA.out hs _ true HC).mono ?_
 rintro e w2 ⟨rfl,b2⟩
 replace CB:=hZq (upQ CB.out b2)
 replace VA:=hZq (VA.out.later b2)
 replace HB:=hZq (below2Z HB.out b2)
 clear b2
 have CBo:=blk3 CB.out
 go_wp2_with fail
 clear CBo
 refine (rfrenc_i HE).mono ?_
 rintro e w3 ⟨rfl,b3⟩
 replace CB:=hZq (upQ CB.out b3)
 replace VA:=hZq (VA.out.later b3)
 replace HB:=hZq (below2Z HB.out b3)
 clear b3
 go_wp2_with fail
 go_ret2
 exact⟨rfl,HB.out⟩

theorem rclask_d {w:World} {v:Value} {t:List Row} (hv:Tab w v t) (hs:Short t) (HC:Hid (clMay ⟨t,1099511627777,true⟩=true)) {l:List UInt8} (HE:Hid (frEnc ⟨4,1099511627776,false,[],⟨0,0,0,[]⟩,0,[]⟩=(l,0))) :
  Calls Tryz.prog 44 #[.agg #[v,.int .i64 1099511627777,.bool true]] w fun e w' => e=.returned (.tuple #[.string ⟨l.toArray⟩,.bool true])∧Below w.heap.size w w':=by
 obtain⟨ca,cc,rfl,-⟩:=hv.open'
 obtain⟨CB,HB⟩:=ent1 w (.cells #[.slice ca t.length cc,.int .i64 1099511627777,.bool true] 33)
 have VA:=hZq (hv.later HB.out)
 clear hv
 go_enter Tryz.func44,Tryz.ntmps44
 have CBo:=blk3 CB.out
 go_wp2_with fail
 clear CBo
 refine (rclmay_eq VA.out hs _ true HC).mono ?_
 rintro e w2 ⟨rfl,b2⟩
 replace CB:=hZq (upQ CB.out b2)
 replace VA:=hZq (VA.out.later b2)
 replace HB:=hZq (below2Z HB.out b2)
 clear b2
 have CBo:=blk3 CB.out
 go_wp2_with fail
 clear CBo
 refine (rfrenc_i HE).mono ?_
 rintro e w3 ⟨rfl,b3⟩
 replace CB:=hZq (upQ CB.out b3)
 replace VA:=hZq (VA.out.later b3)
 replace HB:=hZq (below2Z HB.out b3)
 clear b3
 go_wp2_with fail
 go_ret2
 exact⟨rfl,HB.out⟩

theorem rclask_any {w:World} {v:Value} {t:List Row} (hv:Tab w v t) (n:Int) (o:Bool) (hs:Short t) {l:List UInt8} {r:Bool} (h:Hid (clAsk ⟨t,n,o⟩=(l,r))) :
  Calls Tryz.prog 44 #[.agg #[v,.int .i64 n,.bool o]] w fun e w' => e=.returned (.tuple #[.string ⟨l.toArray⟩,.bool r])∧Below w.heap.size w w':=by
 have h:=h.out
 unfold clAsk at h
 cases hc:clMay ⟨t,n,o⟩ with
 | false =>
  rw [if_neg (by simp [hc])] at h
  simp only [Prod.mk.injEq] at h
  obtain⟨rfl,rfl⟩:=h
  exact rclask_b hv n hs o (hZq hc)
 | true =>
  cases o with
  | false =>
   rw [if_neg (by simp)] at h
   simp only [Prod.mk.injEq] at h
   obtain⟨rfl,rfl⟩:=h
   exact rclask_a hv n hs (hZq hc)
  | true =>
   rw [if_pos (by simp [hc])] at h
   simp only [Prod.mk.injEq] at h
   obtain⟨rfl,rfl⟩:=h
   have he:=enc_mayP (clReq_may hc)
   by_cases hn:n≤1099511627776
   ·have e:clReq ⟨t,n,true⟩=⟨4,n,false,[],⟨0,0,0,[]⟩,0,[]⟩:=by unfold clReq; rw [if_pos hn]; rfl
    rw [e] at he ⊢
    exact rclask_c hv n hs hn (hZq hc) (hZq he)
   ·have e:clReq ⟨t,n,true⟩=⟨4,1099511627776,false,[],⟨0,0,0,[]⟩,0,[]⟩:=by unfold clReq; rw [if_neg hn]; rfl
    rw [e] at he ⊢
    have h1:=(clMay_parts hc).2.1
    obtain rfl:n=1099511627777:=by simp only at h1; omega
    exact rclask_d hv hs (hZq hc) (hZq he)
end Go.Proofs.YtmpigdokghngiaaGreat
