/-
 TEXTS OF THE PROOF, one behind the other: CliRef.
-/
import Derived.Test.YtmpigdokghngiaaGreatQ05
import Derived.Test.YtmpigdokghngiaaGreatQ14
import Derived.Test.YtmpigdokghngiaaGreatQ15
import Derived.Test.YtmpigdokghngiaaGreatQ02
import Derived.Test.YtmpigdokghngiaaGreatQ19
import Derived.Test.YtmpigdokghngiaaGreatQ18

set_option maxHeartbeats 12800000
set_option maxRecDepth 100000

namespace Go.Proofs.YtmpigdokghngiaaGreat
open Go.RowKit

theorem rsum_eqC {w:World} {v:Value} {t:List Row} (hv:Tab w v t) (hs:Short t) {z:Nat} (h:Hid (diSum t=z)) :
  Calls Tryz.prog 32 #[v] w fun e w' => e=.returned (.int .u64 z)∧Below w.heap.size w w':=by
 have:=rdisum_any hv hs
 rwa [h.out] at this

theorem rclmay_n {w:World} {v:Value} {t:List Row} (hv:Tab w v t) (n:Int) (o:Bool) (hs:Short t) (HR:Hid (diMay t=false))  :
  Calls Tryz.prog 29 #[.agg #[v,.int .i64 n,.bool o]] w fun e w' => e=.returned (.bool false)∧Below w.heap.size w w':=by
 obtain⟨ca,cc,rfl,-⟩:=hv.open'
 obtain⟨CB,HB⟩:=ent1 w (.cells #[.slice ca t.length cc,.int .i64 n,.bool o] 33)
 have VA:=hZq (hv.later HB.out)
 clear hv
 go_enter Tryz.func29,Tryz.ntmps29
 have CBo:=blk3 CB.out
 go_wp2_with fail
 clear CBo
 refine (rdimay_eq VA.out hs HR).mono ?_
 rintro e w2 ⟨rfl,b2⟩
 replace CB:=hZq (upQ CB.out b2)
 replace VA:=hZq (VA.out.later b2)
 replace HB:=hZq (below2Z HB.out b2)
 clear b2
 have CBo:=blk3 CB.out
 go_wp2_with fail
 clear CBo
 go_ret
 exact⟨rfl,HB.out⟩

theorem rclmay_a {w:World} {v:Value} {t:List Row} (hv:Tab w v t) (n:Int) (o:Bool) (hs:Short t) (HR:Hid (diMay t=true)) (h0:n < 0) :
  Calls Tryz.prog 29 #[.agg #[v,.int .i64 n,.bool o]] w fun e w' => e=.returned (.bool false)∧Below w.heap.size w w':=by
 have g1:decide (0≤n)=false:=by rw [decide_eq_false_iff_not]; omega
 clear h0
 obtain⟨ca,cc,rfl,-⟩:=hv.open'
 obtain⟨CB,HB⟩:=ent1 w (.cells #[.slice ca t.length cc,.int .i64 n,.bool o] 33)
 have VA:=hZq (hv.later HB.out)
 clear hv
 go_enter Tryz.func29,Tryz.ntmps29
 have CBo:=blk3 CB.out
 go_wp2_with fail
 clear CBo
 refine (rdimay_eq VA.out hs HR).mono ?_
 rintro e w2 ⟨rfl,b2⟩
 replace CB:=hZq (upQ CB.out b2)
 replace VA:=hZq (VA.out.later b2)
 replace HB:=hZq (below2Z HB.out b2)
 clear b2
 have CBo:=blk3 CB.out
 go_wp2_with fail
 clear CBo
 go_ret
 exact⟨rfl,HB.out⟩

theorem rclmay_b {w:World} {v:Value} {t:List Row} (hv:Tab w v t) (n:Int) (o:Bool) (hs:Short t) (HR:Hid (diMay t=true)) (h0:0≤n) (h1:1099511627777 < n) :
  Calls Tryz.prog 29 #[.agg #[v,.int .i64 n,.bool o]] w fun e w' => e=.returned (.bool false)∧Below w.heap.size w w':=by
 have g1:decide (0≤n)=true:=by rw [decide_eq_true_eq]; omega
 have g2:decide (n≤1099511627777)=false:=by rw [decide_eq_false_iff_not]; omega
 clear h0 h1
 obtain⟨ca,cc,rfl,-⟩:=hv.open'
 obtain⟨CB,HB⟩:=ent1 w (.cells #[.slice ca t.length cc,.int .i64 n,.bool o] 33)
 have VA:=hZq (hv.later HB.out)
 clear hv
 go_enter Tryz.func29,Tryz.ntmps29
 have CBo:=blk3 CB.out
 go_wp2_with fail
 clear CBo
 refine (rdimay_eq VA.out hs HR).mono ?_
 rintro e w2 ⟨rfl,b2⟩
 replace CB:=hZq (upQ CB.out b2)
 replace VA:=hZq (VA.out.later b2)
 replace HB:=hZq (below2Z HB.out b2)
 clear b2
 have CBo:=blk3 CB.out
 go_wp2_with fail
 clear CBo
 go_ret
 exact⟨rfl,HB.out⟩

theorem rclmay_c {w:World} {v:Value} {t:List Row} (hv:Tab w v t) (n:Int) (o:Bool) (hs:Short t) (HR:Hid (diMay t=true)) (h0:0≤n) (h1:n≤1099511627777) :
  Calls Tryz.prog 29 #[.agg #[v,.int .i64 n,.bool o]] w fun e w' => e=.returned (.bool true)∧Below w.heap.size w w':=by
 have g1:decide (0≤n)=true:=by rw [decide_eq_true_eq]; omega
 have g2:decide (n≤1099511627777)=true:=by rw [decide_eq_true_eq]; omega
 clear h0 h1
 obtain⟨ca,cc,rfl,-⟩:=hv.open'
 obtain⟨CB,HB⟩:=ent1 w (.cells #[.slice ca t.length cc,.int .i64 n,.bool o] 33)
 have VA:=hZq (hv.later HB.out)
 clear hv
 go_enter Tryz.func29,Tryz.ntmps29
 have CBo:=blk3 CB.out
 go_wp2_with fail
 clear CBo
 refine (rdimay_eq VA.out hs HR).mono ?_
 rintro e w2 ⟨rfl,b2⟩
 replace CB:=hZq (upQ CB.out b2)
 replace VA:=hZq (VA.out.later b2)
 replace HB:=hZq (below2Z HB.out b2)
 clear b2
 have CBo:=blk3 CB.out
 go_wp2_with fail
 clear CBo
 go_ret
 exact⟨rfl,HB.out⟩

theorem rclmay_eq {w:World} {v:Value} {t:List Row} (hv:Tab w v t) (hs:Short t) (n:Int) (o:Bool) {r:Bool} (h:Hid (clMay ⟨t,n,o⟩=r)) :
  Calls Tryz.prog 29 #[.agg #[v,.int .i64 n,.bool o]] w fun e w' => e=.returned (.bool r)∧Below w.heap.size w w':=by
 have h:=h.out
 unfold clMay at h
 simp only at h
 cases hd:diMay t with
 | false =>
  rw [hd,Bool.and_false] at h
  subst h
  exact rclmay_n hv n o hs (hZq hd)
 | true =>
  by_cases h0:n < 0
  ·rw [show decide (0≤n)=false by rw [decide_eq_false_iff_not]; omega] at h
   subst h
   exact rclmay_a hv n o hs (hZq hd) h0
  ·by_cases h1:1099511627777 < n
   ·rw [show decide (n≤1099511627777)=false by rw [decide_eq_false_iff_not]; omega,Bool.and_false] at h
    subst h
    exact rclmay_b hv n o hs (hZq hd) (by omega) h1
   ·rw [hd,show decide (0≤n)=true by rw [decide_eq_true_eq]; omega,show decide (n≤1099511627777)=true by rw [decide_eq_true_eq]; omega] at h
    subst h
    exact rclmay_c hv n o hs (hZq hd) (by omega) (by omega)
end Go.Proofs.YtmpigdokghngiaaGreat
