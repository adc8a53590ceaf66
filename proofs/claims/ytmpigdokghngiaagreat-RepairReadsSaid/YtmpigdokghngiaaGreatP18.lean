/-
 TEXTS OF THE PROOF, one behind the other: FraRfm.
-/
import Derived.Test.YtmpigdokghngiaaGreatP05
import Derived.Test.YtmpigdokghngiaaGreatP04
import Derived.Test.YtmpigdokghngiaaGreatP02

set_option maxHeartbeats 12800000
set_option maxRecDepth 100000

namespace Go.Proofs.YtmpigdokghngiaaGreat
open Go.RowKit

theorem rfm_low {w:World} {ta:Option Addr} {tc:Nat} {tt:List Row} (hv:Tab w (.slice ta tt.length tc) tt) {k:Int} {q:Int} {on:Bool} {sum:Nat} {c:List UInt8} {sh pr si:Int} {st:List UInt8}  (h:q < 0) :
  Calls Tryz.prog 53 #[.agg #[.int .i64 k,.int .i64 q,.bool on,.string ⟨c.toArray⟩,.int .i64 sh,.int .i64 pr,.int .i64 si,.string ⟨st.toArray⟩,.int .u64 sum,.slice ta tt.length tc]] w fun e w' => e=.returned (.bool false)∧Below w.heap.size w w':=by
 have t1:decide (q < 0)=true:=by simpa using h
 clear h
 obtain⟨FB,HB⟩:=ent1 w (.cells #[.int .i64 k,.int .i64 q,.bool on,.string ⟨c.toArray⟩,.int .i64 sh,.int .i64 pr,.int .i64 si,.string ⟨st.toArray⟩,.int .u64 sum,.slice ta tt.length tc] 56)
 have V:=hZq (hv.later HB.out)
 clear hv
 go_enter Tryz.func53,Tryz.ntmps53
 have FBo:=blk10 FB.out
 go_wp2_with fail
 clear FBo
 go_ret
 exact⟨rfl,HB.out⟩

theorem rfm_high {w:World} {ta:Option Addr} {tc:Nat} {tt:List Row} (hv:Tab w (.slice ta tt.length tc) tt) {k:Int} {q:Int} {on:Bool} {sum:Nat} {c:List UInt8} {sh pr si:Int} {st:List UInt8}  (h:1099511627776 < q) :
  Calls Tryz.prog 53 #[.agg #[.int .i64 k,.int .i64 q,.bool on,.string ⟨c.toArray⟩,.int .i64 sh,.int .i64 pr,.int .i64 si,.string ⟨st.toArray⟩,.int .u64 sum,.slice ta tt.length tc]] w fun e w' => e=.returned (.bool false)∧Below w.heap.size w w':=by
 have t1:decide (q < 0)=false:=by simp; omega
 have t2:decide (1099511627776 < q)=true:=by simpa using h
 clear h
 obtain⟨FB,HB⟩:=ent1 w (.cells #[.int .i64 k,.int .i64 q,.bool on,.string ⟨c.toArray⟩,.int .i64 sh,.int .i64 pr,.int .i64 si,.string ⟨st.toArray⟩,.int .u64 sum,.slice ta tt.length tc] 56)
 have V:=hZq (hv.later HB.out)
 clear hv
 go_enter Tryz.func53,Tryz.ntmps53
 have FBo:=blk10 FB.out
 go_wp2_with fail
 clear FBo
 go_ret
 exact⟨rfl,HB.out⟩

theorem rfm_kind {w:World} {ta:Option Addr} {tc:Nat} {tt:List Row} (hv:Tab w (.slice ta tt.length tc) tt) {k:Int} {q:Int} {on:Bool} {sum:Nat} {c:List UInt8} {sh pr si:Int} {st:List UInt8} (h0:0≤q) (h1:q≤1099511627776) (hk:k < 1∨4 < k) :
  Calls Tryz.prog 53 #[.agg #[.int .i64 k,.int .i64 q,.bool on,.string ⟨c.toArray⟩,.int .i64 sh,.int .i64 pr,.int .i64 si,.string ⟨st.toArray⟩,.int .u64 sum,.slice ta tt.length tc]] w fun e w' => e=.returned (.bool false)∧Below w.heap.size w w':=by
 have t1:decide (q < 0)=false:=by simp; omega
 have t2:decide (1099511627776 < q)=false:=by simp; omega
 clear h0 h1
 have k1:(k == 1)=false:=by rw [beq_eq_false_iff_ne]; omega
 have k2:(k == 2)=false:=by rw [beq_eq_false_iff_ne]; omega
 have k3:(k == 3)=false:=by rw [beq_eq_false_iff_ne]; omega
 have k4:(k == 4)=false:=by rw [beq_eq_false_iff_ne]; omega
 clear hk
 obtain⟨FB,HB⟩:=ent1 w (.cells #[.int .i64 k,.int .i64 q,.bool on,.string ⟨c.toArray⟩,.int .i64 sh,.int .i64 pr,.int .i64 si,.string ⟨st.toArray⟩,.int .u64 sum,.slice ta tt.length tc] 56)
 have V:=hZq (hv.later HB.out)
 clear hv
 go_enter Tryz.func53,Tryz.ntmps53
 have FBo:=blk10 FB.out
 go_wp2_with fail
 clear FBo
 go_ret
 exact⟨rfl,HB.out⟩

theorem rfm_2on {w:World} {ta:Option Addr} {tc:Nat} {tt:List Row} (hv:Tab w (.slice ta tt.length tc) tt) {q:Int} {sum:Nat} {c:List UInt8} {sh pr si:Int} {st:List UInt8} (h0:0≤q) (h1:q≤1099511627776)  :
  Calls Tryz.prog 53 #[.agg #[.int .i64 2,.int .i64 q,.bool true,.string ⟨c.toArray⟩,.int .i64 sh,.int .i64 pr,.int .i64 si,.string ⟨st.toArray⟩,.int .u64 sum,.slice ta tt.length tc]] w fun e w' => e=.returned (.bool false)∧Below w.heap.size w w':=by
 have t1:decide (q < 0)=false:=by simp; omega
 have t2:decide (1099511627776 < q)=false:=by simp; omega
 clear h0 h1
 obtain⟨FB,HB⟩:=ent1 w (.cells #[.int .i64 2,.int .i64 q,.bool true,.string ⟨c.toArray⟩,.int .i64 sh,.int .i64 pr,.int .i64 si,.string ⟨st.toArray⟩,.int .u64 sum,.slice ta tt.length tc] 56)
 have V:=hZq (hv.later HB.out)
 clear hv
 go_enter Tryz.func53,Tryz.ntmps53
 have FBo:=blk10 FB.out
 go_wp2_with fail
 clear FBo
 go_ret
 exact⟨rfl,HB.out⟩

theorem rfm_2c {w:World} {ta:Option Addr} {tc:Nat} {tt:List Row} (hv:Tab w (.slice ta tt.length tc) tt) {q:Int} {sum:Nat} {x:UInt8} {c0:List UInt8} {sh pr si:Int} {st:List UInt8} (h0:0≤q) (h1:q≤1099511627776)  :
  Calls Tryz.prog 53 #[.agg #[.int .i64 2,.int .i64 q,.bool false,.string ⟨(x :: c0).toArray⟩,.int .i64 sh,.int .i64 pr,.int .i64 si,.string ⟨st.toArray⟩,.int .u64 sum,.slice ta tt.length tc]] w fun e w' => e=.returned (.bool false)∧Below w.heap.size w w':=by
 have t1:decide (q < 0)=false:=by simp; omega
 have t2:decide (1099511627776 < q)=false:=by simp; omega
 clear h0 h1
 obtain⟨FB,HB⟩:=ent1 w (.cells #[.int .i64 2,.int .i64 q,.bool false,.string ⟨(x :: c0).toArray⟩,.int .i64 sh,.int .i64 pr,.int .i64 si,.string ⟨st.toArray⟩,.int .u64 sum,.slice ta tt.length tc] 56)
 have V:=hZq (hv.later HB.out)
 clear hv
 go_enter Tryz.func53,Tryz.ntmps53
 have FBo:=blk10 FB.out
 go_wp2_with fail
 clear FBo
 go_ret
 exact⟨rfl,HB.out⟩

theorem rfm_2v {w:World} {ta:Option Addr} {tc:Nat} {tt:List Row} (hv:Tab w (.slice ta tt.length tc) tt) {q:Int} {sum:Nat} {sh pr si:Int} {st:List UInt8} (h0:0≤q) (h1:q≤1099511627776) (hz:vSame ⟨sh,pr,si,st⟩ Val.zero=false) :
  Calls Tryz.prog 53 #[.agg #[.int .i64 2,.int .i64 q,.bool false,.string ⟨#[]⟩,.int .i64 sh,.int .i64 pr,.int .i64 si,.string ⟨st.toArray⟩,.int .u64 sum,.slice ta tt.length tc]] w fun e w' => e=.returned (.bool false)∧Below w.heap.size w w':=by
 have t1:decide (q < 0)=false:=by simp; omega
 have t2:decide (1099511627776 < q)=false:=by simp; omega
 clear h0 h1
 have heq:∀ w,(binOp .eql 53 (.agg #[.int .i64 sh,.int .i64 pr,.int .i64 si,.string ⟨st.toArray⟩]) (.agg #[.int .i64 0,.int .i64 0,.int .i64 0,.string ⟨#[]⟩])).run Tryz.prog w=.ok (.bool false) w:=fun w => by have h2:=val_eql5 sh pr si 0 0 0 st [] w; rw [show vSame ⟨sh,pr,si,st⟩ ⟨0,0,0,[]⟩=false from hz] at h2; exact h2
 have hgd:Tryz.prog.eqGuardType Tryz.prog.depth 53=false:=by kernel_rfl
 clear hz
 obtain⟨FB,HB⟩:=ent1 w (.cells #[.int .i64 2,.int .i64 q,.bool false,.string ⟨#[]⟩,.int .i64 sh,.int .i64 pr,.int .i64 si,.string ⟨st.toArray⟩,.int .u64 sum,.slice ta tt.length tc] 56)
 have V:=hZq (hv.later HB.out)
 clear hv
 go_enter Tryz.func53,Tryz.ntmps53
 have FBo:=blk10 FB.out
 go_wp2_with fail
 clear FBo
 go_ret
 exact⟨rfl,HB.out⟩

theorem rfm_2z {w:World} {ta:Option Addr} {tc:Nat} (hv:Tab w (.slice ta 0 tc) []) {q:Int} {sum:Nat} (h0:0≤q) (h1:q≤1099511627776)  :
  Calls Tryz.prog 53 #[.agg #[.int .i64 2,.int .i64 q,.bool false,.string ⟨#[]⟩,.int .i64 0,.int .i64 0,.int .i64 0,.string ⟨#[]⟩,.int .u64 sum,.slice ta 0 tc]] w fun e w' => e=.returned (.bool true)∧Below w.heap.size w w':=by
 have t1:decide (q < 0)=false:=by simp; omega
 have t2:decide (1099511627776 < q)=false:=by simp; omega
 clear h0 h1
 obtain⟨FB,HB⟩:=ent1 w (.cells #[.int .i64 2,.int .i64 q,.bool false,.string ⟨#[]⟩,.int .i64 0,.int .i64 0,.int .i64 0,.string ⟨#[]⟩,.int .u64 sum,.slice ta 0 tc] 56)
 have V:=hZq (hv.later HB.out)
 clear hv
 go_enter Tryz.func53,Tryz.ntmps53
 have FBo:=blk10 FB.out
 go_wp2_with fail
 clear FBo
 go_ret
 exact⟨rfl,HB.out⟩

theorem rfm_2zl {w:World} {ta:Option Addr} {tc:Nat} {y:Row} {ys:List Row} (hv:Tab w (.slice ta (ys.length+1) tc) (y :: ys)) {q:Int} {sum:Nat} (h0:0≤q) (h1:q≤1099511627776)  :
  Calls Tryz.prog 53 #[.agg #[.int .i64 2,.int .i64 q,.bool false,.string ⟨#[]⟩,.int .i64 0,.int .i64 0,.int .i64 0,.string ⟨#[]⟩,.int .u64 sum,.slice ta (ys.length+1) tc]] w fun e w' => e=.returned (.bool false)∧Below w.heap.size w w':=by
 have t1:decide (q < 0)=false:=by simp; omega
 have t2:decide (1099511627776 < q)=false:=by simp; omega
 clear h0 h1
 have tl:(((ys.length+1:Nat):Int) == 0)=false:=by rw [beq_eq_false_iff_ne]; omega
 have tl2:((ys.length:Int)+1 == 0)=false:=by rw [beq_eq_false_iff_ne]; omega
 obtain⟨FB,HB⟩:=ent1 w (.cells #[.int .i64 2,.int .i64 q,.bool false,.string ⟨#[]⟩,.int .i64 0,.int .i64 0,.int .i64 0,.string ⟨#[]⟩,.int .u64 sum,.slice ta (ys.length+1) tc] 56)
 have V:=hZq (hv.later HB.out)
 clear hv
 go_enter Tryz.func53,Tryz.ntmps53
 have FBo:=blk10 FB.out
 go_wp2_with fail
 clear FBo
 go_ret
 exact⟨rfl,HB.out⟩

theorem rfm_3on {w:World} {ta:Option Addr} {tc:Nat} {tt:List Row} (hv:Tab w (.slice ta tt.length tc) tt) {q:Int} {sum:Nat} {c:List UInt8} {sh pr si:Int} {st:List UInt8} (h0:0≤q) (h1:q≤1099511627776)  :
  Calls Tryz.prog 53 #[.agg #[.int .i64 3,.int .i64 q,.bool true,.string ⟨c.toArray⟩,.int .i64 sh,.int .i64 pr,.int .i64 si,.string ⟨st.toArray⟩,.int .u64 sum,.slice ta tt.length tc]] w fun e w' => e=.returned (.bool false)∧Below w.heap.size w w':=by
 have t1:decide (q < 0)=false:=by simp; omega
 have t2:decide (1099511627776 < q)=false:=by simp; omega
 clear h0 h1
 obtain⟨FB,HB⟩:=ent1 w (.cells #[.int .i64 3,.int .i64 q,.bool true,.string ⟨c.toArray⟩,.int .i64 sh,.int .i64 pr,.int .i64 si,.string ⟨st.toArray⟩,.int .u64 sum,.slice ta tt.length tc] 56)
 have V:=hZq (hv.later HB.out)
 clear hv
 go_enter Tryz.func53,Tryz.ntmps53
 have FBo:=blk10 FB.out
 go_wp2_with fail
 clear FBo
 go_ret
 exact⟨rfl,HB.out⟩

theorem rfm_3c {w:World} {ta:Option Addr} {tc:Nat} {tt:List Row} (hv:Tab w (.slice ta tt.length tc) tt) {q:Int} {sum:Nat} {x:UInt8} {c0:List UInt8} {sh pr si:Int} {st:List UInt8} (h0:0≤q) (h1:q≤1099511627776)  :
  Calls Tryz.prog 53 #[.agg #[.int .i64 3,.int .i64 q,.bool false,.string ⟨(x :: c0).toArray⟩,.int .i64 sh,.int .i64 pr,.int .i64 si,.string ⟨st.toArray⟩,.int .u64 sum,.slice ta tt.length tc]] w fun e w' => e=.returned (.bool false)∧Below w.heap.size w w':=by
 have t1:decide (q < 0)=false:=by simp; omega
 have t2:decide (1099511627776 < q)=false:=by simp; omega
 clear h0 h1
 obtain⟨FB,HB⟩:=ent1 w (.cells #[.int .i64 3,.int .i64 q,.bool false,.string ⟨(x :: c0).toArray⟩,.int .i64 sh,.int .i64 pr,.int .i64 si,.string ⟨st.toArray⟩,.int .u64 sum,.slice ta tt.length tc] 56)
 have V:=hZq (hv.later HB.out)
 clear hv
 go_enter Tryz.func53,Tryz.ntmps53
 have FBo:=blk10 FB.out
 go_wp2_with fail
 clear FBo
 go_ret
 exact⟨rfl,HB.out⟩

theorem rfm_3v {w:World} {ta:Option Addr} {tc:Nat} {tt:List Row} (hv:Tab w (.slice ta tt.length tc) tt) {q:Int} {sum:Nat} {sh pr si:Int} {st:List UInt8} (h0:0≤q) (h1:q≤1099511627776) (hz:vSame ⟨sh,pr,si,st⟩ Val.zero=false) :
  Calls Tryz.prog 53 #[.agg #[.int .i64 3,.int .i64 q,.bool false,.string ⟨#[]⟩,.int .i64 sh,.int .i64 pr,.int .i64 si,.string ⟨st.toArray⟩,.int .u64 sum,.slice ta tt.length tc]] w fun e w' => e=.returned (.bool false)∧Below w.heap.size w w':=by
 have t1:decide (q < 0)=false:=by simp; omega
 have t2:decide (1099511627776 < q)=false:=by simp; omega
 clear h0 h1
 have heq:∀ w,(binOp .eql 53 (.agg #[.int .i64 sh,.int .i64 pr,.int .i64 si,.string ⟨st.toArray⟩]) (.agg #[.int .i64 0,.int .i64 0,.int .i64 0,.string ⟨#[]⟩])).run Tryz.prog w=.ok (.bool false) w:=fun w => by have h2:=val_eql5 sh pr si 0 0 0 st [] w; rw [show vSame ⟨sh,pr,si,st⟩ ⟨0,0,0,[]⟩=false from hz] at h2; exact h2
 have hgd:Tryz.prog.eqGuardType Tryz.prog.depth 53=false:=by kernel_rfl
 clear hz
 obtain⟨FB,HB⟩:=ent1 w (.cells #[.int .i64 3,.int .i64 q,.bool false,.string ⟨#[]⟩,.int .i64 sh,.int .i64 pr,.int .i64 si,.string ⟨st.toArray⟩,.int .u64 sum,.slice ta tt.length tc] 56)
 have V:=hZq (hv.later HB.out)
 clear hv
 go_enter Tryz.func53,Tryz.ntmps53
 have FBo:=blk10 FB.out
 go_wp2_with fail
 clear FBo
 go_ret
 exact⟨rfl,HB.out⟩

theorem rfm_3s {w:World} {ta:Option Addr} {tc:Nat} {tt:List Row} (hv:Tab w (.slice ta tt.length tc) tt) {q:Int} {sum:Nat} (h0:0≤q) (h1:q≤1099511627776) (hs:sum ≠ 0) :
  Calls Tryz.prog 53 #[.agg #[.int .i64 3,.int .i64 q,.bool false,.string ⟨#[]⟩,.int .i64 0,.int .i64 0,.int .i64 0,.string ⟨#[]⟩,.int .u64 sum,.slice ta tt.length tc]] w fun e w' => e=.returned (.bool false)∧Below w.heap.size w w':=by
 have t1:decide (q < 0)=false:=by simp; omega
 have t2:decide (1099511627776 < q)=false:=by simp; omega
 clear h0 h1
 have ts:((sum:Int) == 0)=false:=by rw [beq_eq_false_iff_ne]; omega
 clear hs
 obtain⟨FB,HB⟩:=ent1 w (.cells #[.int .i64 3,.int .i64 q,.bool false,.string ⟨#[]⟩,.int .i64 0,.int .i64 0,.int .i64 0,.string ⟨#[]⟩,.int .u64 sum,.slice ta tt.length tc] 56)
 have V:=hZq (hv.later HB.out)
 clear hv
 go_enter Tryz.func53,Tryz.ntmps53
 have FBo:=blk10 FB.out
 go_wp2_with fail
 clear FBo
 go_ret
 exact⟨rfl,HB.out⟩

theorem rfm_3z {w:World} {ta:Option Addr} {tc:Nat} {tt:List Row} (hv:Tab w (.slice ta tt.length tc) tt) {q:Int} (h0:0≤q) (h1:q≤1099511627776) (hsh:Hid (Short tt)) {r:Bool} (hm:Hid (diMay tt=r)) :
  Calls Tryz.prog 53 #[.agg #[.int .i64 3,.int .i64 q,.bool false,.string ⟨#[]⟩,.int .i64 0,.int .i64 0,.int .i64 0,.string ⟨#[]⟩,.int .u64 0,.slice ta tt.length tc]] w fun e w' => e=.returned (.bool r)∧Below w.heap.size w w':=by
 have t1:decide (q < 0)=false:=by simp; omega
 have t2:decide (1099511627776 < q)=false:=by simp; omega
 clear h0 h1
 obtain⟨FB,HB⟩:=ent1 w (.cells #[.int .i64 3,.int .i64 q,.bool false,.string ⟨#[]⟩,.int .i64 0,.int .i64 0,.int .i64 0,.string ⟨#[]⟩,.int .u64 0,.slice ta tt.length tc] 56)
 have V:=hZq (hv.later HB.out)
 clear hv
 go_enter Tryz.func53,Tryz.ntmps53
 have FBo:=blk10 FB.out
 go_wp2_with fail
 clear FBo
 refine (rdimay_eq V.out hsh.out hm).mono ?_
 rintro e w2 ⟨rfl,b2⟩
 replace FB:=hZq (upQ FB.out b2)
 replace V:=hZq (V.out.later b2)
 replace HB:=hZq (below2Z HB.out b2)
 clear b2
 have FBo:=blk10 FB.out
 go_wp2_with fail
 clear FBo
 go_ret
 exact⟨rfl,HB.out⟩

theorem rfm_4on {w:World} {ta:Option Addr} {tc:Nat} {tt:List Row} (hv:Tab w (.slice ta tt.length tc) tt) {q:Int} {sum:Nat} {c:List UInt8} {sh pr si:Int} {st:List UInt8} (h0:0≤q) (h1:q≤1099511627776)  :
  Calls Tryz.prog 53 #[.agg #[.int .i64 4,.int .i64 q,.bool true,.string ⟨c.toArray⟩,.int .i64 sh,.int .i64 pr,.int .i64 si,.string ⟨st.toArray⟩,.int .u64 sum,.slice ta tt.length tc]] w fun e w' => e=.returned (.bool false)∧Below w.heap.size w w':=by
 have t1:decide (q < 0)=false:=by simp; omega
 have t2:decide (1099511627776 < q)=false:=by simp; omega
 clear h0 h1
 obtain⟨FB,HB⟩:=ent1 w (.cells #[.int .i64 4,.int .i64 q,.bool true,.string ⟨c.toArray⟩,.int .i64 sh,.int .i64 pr,.int .i64 si,.string ⟨st.toArray⟩,.int .u64 sum,.slice ta tt.length tc] 56)
 have V:=hZq (hv.later HB.out)
 clear hv
 go_enter Tryz.func53,Tryz.ntmps53
 have FBo:=blk10 FB.out
 go_wp2_with fail
 clear FBo
 go_ret
 exact⟨rfl,HB.out⟩

theorem rfm_4c {w:World} {ta:Option Addr} {tc:Nat} {tt:List Row} (hv:Tab w (.slice ta tt.length tc) tt) {q:Int} {sum:Nat} {x:UInt8} {c0:List UInt8} {sh pr si:Int} {st:List UInt8} (h0:0≤q) (h1:q≤1099511627776)  :
  Calls Tryz.prog 53 #[.agg #[.int .i64 4,.int .i64 q,.bool false,.string ⟨(x :: c0).toArray⟩,.int .i64 sh,.int .i64 pr,.int .i64 si,.string ⟨st.toArray⟩,.int .u64 sum,.slice ta tt.length tc]] w fun e w' => e=.returned (.bool false)∧Below w.heap.size w w':=by
 have t1:decide (q < 0)=false:=by simp; omega
 have t2:decide (1099511627776 < q)=false:=by simp; omega
 clear h0 h1
 obtain⟨FB,HB⟩:=ent1 w (.cells #[.int .i64 4,.int .i64 q,.bool false,.string ⟨(x :: c0).toArray⟩,.int .i64 sh,.int .i64 pr,.int .i64 si,.string ⟨st.toArray⟩,.int .u64 sum,.slice ta tt.length tc] 56)
 have V:=hZq (hv.later HB.out)
 clear hv
 go_enter Tryz.func53,Tryz.ntmps53
 have FBo:=blk10 FB.out
 go_wp2_with fail
 clear FBo
 go_ret
 exact⟨rfl,HB.out⟩

theorem rfm_4v {w:World} {ta:Option Addr} {tc:Nat} {tt:List Row} (hv:Tab w (.slice ta tt.length tc) tt) {q:Int} {sum:Nat} {sh pr si:Int} {st:List UInt8} (h0:0≤q) (h1:q≤1099511627776) (hz:vSame ⟨sh,pr,si,st⟩ Val.zero=false) :
  Calls Tryz.prog 53 #[.agg #[.int .i64 4,.int .i64 q,.bool false,.string ⟨#[]⟩,.int .i64 sh,.int .i64 pr,.int .i64 si,.string ⟨st.toArray⟩,.int .u64 sum,.slice ta tt.length tc]] w fun e w' => e=.returned (.bool false)∧Below w.heap.size w w':=by
 have t1:decide (q < 0)=false:=by simp; omega
 have t2:decide (1099511627776 < q)=false:=by simp; omega
 clear h0 h1
 have heq:∀ w,(binOp .eql 53 (.agg #[.int .i64 sh,.int .i64 pr,.int .i64 si,.string ⟨st.toArray⟩]) (.agg #[.int .i64 0,.int .i64 0,.int .i64 0,.string ⟨#[]⟩])).run Tryz.prog w=.ok (.bool false) w:=fun w => by have h2:=val_eql5 sh pr si 0 0 0 st [] w; rw [show vSame ⟨sh,pr,si,st⟩ ⟨0,0,0,[]⟩=false from hz] at h2; exact h2
 have hgd:Tryz.prog.eqGuardType Tryz.prog.depth 53=false:=by kernel_rfl
 clear hz
 obtain⟨FB,HB⟩:=ent1 w (.cells #[.int .i64 4,.int .i64 q,.bool false,.string ⟨#[]⟩,.int .i64 sh,.int .i64 pr,.int .i64 si,.string ⟨st.toArray⟩,.int .u64 sum,.slice ta tt.length tc] 56)
 have V:=hZq (hv.later HB.out)
 clear hv
 go_enter Tryz.func53,Tryz.ntmps53
 have FBo:=blk10 FB.out
 go_wp2_with fail
 clear FBo
 go_ret
 exact⟨rfl,HB.out⟩

theorem rfm_4s {w:World} {ta:Option Addr} {tc:Nat} {tt:List Row} (hv:Tab w (.slice ta tt.length tc) tt) {q:Int} {sum:Nat} (h0:0≤q) (h1:q≤1099511627776) (hs:sum ≠ 0) :
  Calls Tryz.prog 53 #[.agg #[.int .i64 4,.int .i64 q,.bool false,.string ⟨#[]⟩,.int .i64 0,.int .i64 0,.int .i64 0,.string ⟨#[]⟩,.int .u64 sum,.slice ta tt.length tc]] w fun e w' => e=.returned (.bool false)∧Below w.heap.size w w':=by
 have t1:decide (q < 0)=false:=by simp; omega
 have t2:decide (1099511627776 < q)=false:=by simp; omega
 clear h0 h1
 have ts:((sum:Int) == 0)=false:=by rw [beq_eq_false_iff_ne]; omega
 clear hs
 obtain⟨FB,HB⟩:=ent1 w (.cells #[.int .i64 4,.int .i64 q,.bool false,.string ⟨#[]⟩,.int .i64 0,.int .i64 0,.int .i64 0,.string ⟨#[]⟩,.int .u64 sum,.slice ta tt.length tc] 56)
 have V:=hZq (hv.later HB.out)
 clear hv
 go_enter Tryz.func53,Tryz.ntmps53
 have FBo:=blk10 FB.out
 go_wp2_with fail
 clear FBo
 go_ret
 exact⟨rfl,HB.out⟩

theorem rfm_4z {w:World} {ta:Option Addr} {tc:Nat} (hv:Tab w (.slice ta 0 tc) []) {q:Int} (h0:0≤q) (h1:q≤1099511627776)  :
  Calls Tryz.prog 53 #[.agg #[.int .i64 4,.int .i64 q,.bool false,.string ⟨#[]⟩,.int .i64 0,.int .i64 0,.int .i64 0,.string ⟨#[]⟩,.int .u64 0,.slice ta 0 tc]] w fun e w' => e=.returned (.bool true)∧Below w.heap.size w w':=by
 have t1:decide (q < 0)=false:=by simp; omega
 have t2:decide (1099511627776 < q)=false:=by simp; omega
 clear h0 h1
 obtain⟨FB,HB⟩:=ent1 w (.cells #[.int .i64 4,.int .i64 q,.bool false,.string ⟨#[]⟩,.int .i64 0,.int .i64 0,.int .i64 0,.string ⟨#[]⟩,.int .u64 0,.slice ta 0 tc] 56)
 have V:=hZq (hv.later HB.out)
 clear hv
 go_enter Tryz.func53,Tryz.ntmps53
 have FBo:=blk10 FB.out
 go_wp2_with fail
 clear FBo
 go_ret
 exact⟨rfl,HB.out⟩

theorem rfm_4zl {w:World} {ta:Option Addr} {tc:Nat} {y:Row} {ys:List Row} (hv:Tab w (.slice ta (ys.length+1) tc) (y :: ys)) {q:Int} (h0:0≤q) (h1:q≤1099511627776)  :
  Calls Tryz.prog 53 #[.agg #[.int .i64 4,.int .i64 q,.bool false,.string ⟨#[]⟩,.int .i64 0,.int .i64 0,.int .i64 0,.string ⟨#[]⟩,.int .u64 0,.slice ta (ys.length+1) tc]] w fun e w' => e=.returned (.bool false)∧Below w.heap.size w w':=by
 have t1:decide (q < 0)=false:=by simp; omega
 have t2:decide (1099511627776 < q)=false:=by simp; omega
 clear h0 h1
 have tl:(((ys.length+1:Nat):Int) == 0)=false:=by rw [beq_eq_false_iff_ne]; omega
 have tl2:((ys.length:Int)+1 == 0)=false:=by rw [beq_eq_false_iff_ne]; omega
 obtain⟨FB,HB⟩:=ent1 w (.cells #[.int .i64 4,.int .i64 q,.bool false,.string ⟨#[]⟩,.int .i64 0,.int .i64 0,.int .i64 0,.string ⟨#[]⟩,.int .u64 0,.slice ta (ys.length+1) tc] 56)
 have V:=hZq (hv.later HB.out)
 clear hv
 go_enter Tryz.func53,Tryz.ntmps53
 have FBo:=blk10 FB.out
 go_wp2_with fail
 clear FBo
 go_ret
 exact⟨rfl,HB.out⟩

theorem ris_eqF (l:List UInt8) (hl:l.length≤4294967296) {r:Bool} (h:Hid (idIs l=r)) (w:World) :
  Calls Tryz.prog 60 #[.string ⟨l.toArray⟩] w fun e w' => e=.returned (.bool r)∧Below w.heap.size w w':=by
 rw [← h.out]
 exact (ris_any l hl w).mono fun _ _ ⟨he,hw⟩ => ⟨he,hw ▸ Below.refl _ _⟩

theorem rfm_1i {w:World} {ta:Option Addr} {tc:Nat} {tt:List Row} (hv:Tab w (.slice ta tt.length tc) tt) {q:Int} {on:Bool} {sum:Nat} {c:List UInt8} {sh pr si:Int} {st:List UInt8} (h0:0≤q) (h1:q≤1099511627776) (hc:c.length≤4294967296) (hi:Hid (idIs c=false)) :
  Calls Tryz.prog 53 #[.agg #[.int .i64 1,.int .i64 q,.bool on,.string ⟨c.toArray⟩,.int .i64 sh,.int .i64 pr,.int .i64 si,.string ⟨st.toArray⟩,.int .u64 sum,.slice ta tt.length tc]] w fun e w' => e=.returned (.bool false)∧Below w.heap.size w w':=by
 have t1:decide (q < 0)=false:=by simp; omega
 have t2:decide (1099511627776 < q)=false:=by simp; omega
 clear h0 h1
 obtain⟨FB,HB⟩:=ent1 w (.cells #[.int .i64 1,.int .i64 q,.bool on,.string ⟨c.toArray⟩,.int .i64 sh,.int .i64 pr,.int .i64 si,.string ⟨st.toArray⟩,.int .u64 sum,.slice ta tt.length tc] 56)
 have V:=hZq (hv.later HB.out)
 clear hv
 go_enter Tryz.func53,Tryz.ntmps53
 have FBo:=blk10 FB.out
 go_wp2_with fail
 clear FBo
 refine (ris_eqF c hc hi _).mono ?_
 rintro e w2 ⟨rfl,b2⟩
 replace FB:=hZq (upQ FB.out b2)
 replace V:=hZq (V.out.later b2)
 replace HB:=hZq (below2Z HB.out b2)
 clear b2
 have FBo:=blk10 FB.out
 go_wp2_with fail
 clear FBo
 go_ret
 exact⟨rfl,HB.out⟩

theorem rfm_1m {w:World} {ta:Option Addr} {tc:Nat} {tt:List Row} (hv:Tab w (.slice ta tt.length tc) tt) {q:Int} {sum:Nat} {c:List UInt8} {sh pr si:Int} {st:List UInt8} (h0:0≤q) (h1:q≤1099511627776) (hc:c.length≤4294967296) (hi:Hid (idIs c=true)) (hst:st.length≤4294967296) (hm:Hid (vaMay ⟨sh,pr,si,st⟩=false)) :
  Calls Tryz.prog 53 #[.agg #[.int .i64 1,.int .i64 q,.bool true,.string ⟨c.toArray⟩,.int .i64 sh,.int .i64 pr,.int .i64 si,.string ⟨st.toArray⟩,.int .u64 sum,.slice ta tt.length tc]] w fun e w' => e=.returned (.bool false)∧Below w.heap.size w w':=by
 have t1:decide (q < 0)=false:=by simp; omega
 have t2:decide (1099511627776 < q)=false:=by simp; omega
 clear h0 h1
 obtain⟨FB,HB⟩:=ent1 w (.cells #[.int .i64 1,.int .i64 q,.bool true,.string ⟨c.toArray⟩,.int .i64 sh,.int .i64 pr,.int .i64 si,.string ⟨st.toArray⟩,.int .u64 sum,.slice ta tt.length tc] 56)
 have V:=hZq (hv.later HB.out)
 clear hv
 go_enter Tryz.func53,Tryz.ntmps53
 have FBo:=blk10 FB.out
 go_wp2_with fail
 clear FBo
 refine (ris_eqF c hc hi _).mono ?_
 rintro e w2 ⟨rfl,b2⟩
 replace FB:=hZq (upQ FB.out b2)
 replace V:=hZq (V.out.later b2)
 replace HB:=hZq (below2Z HB.out b2)
 clear b2
 have FBo:=blk10 FB.out
 go_wp2_with fail
 clear FBo
 refine (rmay_eq sh pr si st hst hm _).mono ?_
 rintro e w3 ⟨rfl,b3⟩
 replace FB:=hZq (upQ FB.out b3)
 replace V:=hZq (V.out.later b3)
 replace HB:=hZq (below2Z HB.out b3)
 clear b3
 have FBo:=blk10 FB.out
 go_wp2_with fail
 clear FBo
 go_ret
 exact⟨rfl,HB.out⟩

theorem rfm_1s {w:World} {ta:Option Addr} {tc:Nat} {tt:List Row} (hv:Tab w (.slice ta tt.length tc) tt) {q:Int} {sum:Nat} {c:List UInt8} {sh pr si:Int} {st:List UInt8} (h0:0≤q) (h1:q≤1099511627776) (hc:c.length≤4294967296) (hi:Hid (idIs c=true)) (hst:st.length≤4294967296) (hm:Hid (vaMay ⟨sh,pr,si,st⟩=true)) (hs:sum ≠ 0) :
  Calls Tryz.prog 53 #[.agg #[.int .i64 1,.int .i64 q,.bool true,.string ⟨c.toArray⟩,.int .i64 sh,.int .i64 pr,.int .i64 si,.string ⟨st.toArray⟩,.int .u64 sum,.slice ta tt.length tc]] w fun e w' => e=.returned (.bool false)∧Below w.heap.size w w':=by
 have t1:decide (q < 0)=false:=by simp; omega
 have t2:decide (1099511627776 < q)=false:=by simp; omega
 clear h0 h1
 have ts:((sum:Int) == 0)=false:=by rw [beq_eq_false_iff_ne]; omega
 clear hs
 obtain⟨FB,HB⟩:=ent1 w (.cells #[.int .i64 1,.int .i64 q,.bool true,.string ⟨c.toArray⟩,.int .i64 sh,.int .i64 pr,.int .i64 si,.string ⟨st.toArray⟩,.int .u64 sum,.slice ta tt.length tc] 56)
 have V:=hZq (hv.later HB.out)
 clear hv
 go_enter Tryz.func53,Tryz.ntmps53
 have FBo:=blk10 FB.out
 go_wp2_with fail
 clear FBo
 refine (ris_eqF c hc hi _).mono ?_
 rintro e w2 ⟨rfl,b2⟩
 replace FB:=hZq (upQ FB.out b2)
 replace V:=hZq (V.out.later b2)
 replace HB:=hZq (below2Z HB.out b2)
 clear b2
 have FBo:=blk10 FB.out
 go_wp2_with fail
 clear FBo
 refine (rmay_eq sh pr si st hst hm _).mono ?_
 rintro e w3 ⟨rfl,b3⟩
 replace FB:=hZq (upQ FB.out b3)
 replace V:=hZq (V.out.later b3)
 replace HB:=hZq (below2Z HB.out b3)
 clear b3
 have FBo:=blk10 FB.out
 go_wp2_with fail
 clear FBo
 go_ret
 exact⟨rfl,HB.out⟩

theorem rfm_1z {w:World} {ta:Option Addr} {tc:Nat} (hv:Tab w (.slice ta 0 tc) []) {q:Int} {c:List UInt8} {sh pr si:Int} {st:List UInt8} (h0:0≤q) (h1:q≤1099511627776) (hc:c.length≤4294967296) (hi:Hid (idIs c=true)) (hst:st.length≤4294967296) (hm:Hid (vaMay ⟨sh,pr,si,st⟩=true)) :
  Calls Tryz.prog 53 #[.agg #[.int .i64 1,.int .i64 q,.bool true,.string ⟨c.toArray⟩,.int .i64 sh,.int .i64 pr,.int .i64 si,.string ⟨st.toArray⟩,.int .u64 0,.slice ta 0 tc]] w fun e w' => e=.returned (.bool true)∧Below w.heap.size w w':=by
 have t1:decide (q < 0)=false:=by simp; omega
 have t2:decide (1099511627776 < q)=false:=by simp; omega
 clear h0 h1
 obtain⟨FB,HB⟩:=ent1 w (.cells #[.int .i64 1,.int .i64 q,.bool true,.string ⟨c.toArray⟩,.int .i64 sh,.int .i64 pr,.int .i64 si,.string ⟨st.toArray⟩,.int .u64 0,.slice ta 0 tc] 56)
 have V:=hZq (hv.later HB.out)
 clear hv
 go_enter Tryz.func53,Tryz.ntmps53
 have FBo:=blk10 FB.out
 go_wp2_with fail
 clear FBo
 refine (ris_eqF c hc hi _).mono ?_
 rintro e w2 ⟨rfl,b2⟩
 replace FB:=hZq (upQ FB.out b2)
 replace V:=hZq (V.out.later b2)
 replace HB:=hZq (below2Z HB.out b2)
 clear b2
 have FBo:=blk10 FB.out
 go_wp2_with fail
 clear FBo
 refine (rmay_eq sh pr si st hst hm _).mono ?_
 rintro e w3 ⟨rfl,b3⟩
 replace FB:=hZq (upQ FB.out b3)
 replace V:=hZq (V.out.later b3)
 replace HB:=hZq (below2Z HB.out b3)
 clear b3
 have FBo:=blk10 FB.out
 go_wp2_with fail
 clear FBo
 go_ret
 exact⟨rfl,HB.out⟩

theorem rfm_1zl {w:World} {ta:Option Addr} {tc:Nat} {y:Row} {ys:List Row} (hv:Tab w (.slice ta (ys.length+1) tc) (y :: ys)) {q:Int} {c:List UInt8} {sh pr si:Int} {st:List UInt8} (h0:0≤q) (h1:q≤1099511627776) (hc:c.length≤4294967296) (hi:Hid (idIs c=true)) (hst:st.length≤4294967296) (hm:Hid (vaMay ⟨sh,pr,si,st⟩=true)) :
  Calls Tryz.prog 53 #[.agg #[.int .i64 1,.int .i64 q,.bool true,.string ⟨c.toArray⟩,.int .i64 sh,.int .i64 pr,.int .i64 si,.string ⟨st.toArray⟩,.int .u64 0,.slice ta (ys.length+1) tc]] w fun e w' => e=.returned (.bool false)∧Below w.heap.size w w':=by
 have t1:decide (q < 0)=false:=by simp; omega
 have t2:decide (1099511627776 < q)=false:=by simp; omega
 clear h0 h1
 have tl:(((ys.length+1:Nat):Int) == 0)=false:=by rw [beq_eq_false_iff_ne]; omega
 have tl2:((ys.length:Int)+1 == 0)=false:=by rw [beq_eq_false_iff_ne]; omega
 obtain⟨FB,HB⟩:=ent1 w (.cells #[.int .i64 1,.int .i64 q,.bool true,.string ⟨c.toArray⟩,.int .i64 sh,.int .i64 pr,.int .i64 si,.string ⟨st.toArray⟩,.int .u64 0,.slice ta (ys.length+1) tc] 56)
 have V:=hZq (hv.later HB.out)
 clear hv
 go_enter Tryz.func53,Tryz.ntmps53
 have FBo:=blk10 FB.out
 go_wp2_with fail
 clear FBo
 refine (ris_eqF c hc hi _).mono ?_
 rintro e w2 ⟨rfl,b2⟩
 replace FB:=hZq (upQ FB.out b2)
 replace V:=hZq (V.out.later b2)
 replace HB:=hZq (below2Z HB.out b2)
 clear b2
 have FBo:=blk10 FB.out
 go_wp2_with fail
 clear FBo
 refine (rmay_eq sh pr si st hst hm _).mono ?_
 rintro e w3 ⟨rfl,b3⟩
 replace FB:=hZq (upQ FB.out b3)
 replace V:=hZq (V.out.later b3)
 replace HB:=hZq (below2Z HB.out b3)
 clear b3
 have FBo:=blk10 FB.out
 go_wp2_with fail
 clear FBo
 go_ret
 exact⟨rfl,HB.out⟩

theorem rfm_1ov {w:World} {ta:Option Addr} {tc:Nat} {tt:List Row} (hv:Tab w (.slice ta tt.length tc) tt) {q:Int} {sum:Nat} {c:List UInt8} {sh pr si:Int} {st:List UInt8} (h0:0≤q) (h1:q≤1099511627776) (hc:c.length≤4294967296) (hi:Hid (idIs c=true)) (hz:vSame ⟨sh,pr,si,st⟩ Val.zero=false) :
  Calls Tryz.prog 53 #[.agg #[.int .i64 1,.int .i64 q,.bool false,.string ⟨c.toArray⟩,.int .i64 sh,.int .i64 pr,.int .i64 si,.string ⟨st.toArray⟩,.int .u64 sum,.slice ta tt.length tc]] w fun e w' => e=.returned (.bool false)∧Below w.heap.size w w':=by
 have t1:decide (q < 0)=false:=by simp; omega
 have t2:decide (1099511627776 < q)=false:=by simp; omega
 clear h0 h1
 have hne:∀ w,(binOp .neq 53 (.agg #[.int .i64 sh,.int .i64 pr,.int .i64 si,.string ⟨st.toArray⟩]) (.agg #[.int .i64 0,.int .i64 0,.int .i64 0,.string ⟨#[]⟩])).run Tryz.prog w=.ok (.bool true) w:=fun w => by have h2:=val_neq5 sh pr si 0 0 0 st [] w; rw [show vSame ⟨sh,pr,si,st⟩ ⟨0,0,0,[]⟩=false from hz] at h2; exact h2
 have hgd:Tryz.prog.eqGuardType Tryz.prog.depth 53=false:=by kernel_rfl
 clear hz
 obtain⟨FB,HB⟩:=ent1 w (.cells #[.int .i64 1,.int .i64 q,.bool false,.string ⟨c.toArray⟩,.int .i64 sh,.int .i64 pr,.int .i64 si,.string ⟨st.toArray⟩,.int .u64 sum,.slice ta tt.length tc] 56)
 have V:=hZq (hv.later HB.out)
 clear hv
 go_enter Tryz.func53,Tryz.ntmps53
 have FBo:=blk10 FB.out
 go_wp2_with fail
 clear FBo
 refine (ris_eqF c hc hi _).mono ?_
 rintro e w2 ⟨rfl,b2⟩
 replace FB:=hZq (upQ FB.out b2)
 replace V:=hZq (V.out.later b2)
 replace HB:=hZq (below2Z HB.out b2)
 clear b2
 have FBo:=blk10 FB.out
 go_wp2_with fail
 clear FBo
 go_ret
 exact⟨rfl,HB.out⟩

theorem rfm_1os {w:World} {ta:Option Addr} {tc:Nat} {tt:List Row} (hv:Tab w (.slice ta tt.length tc) tt) {q:Int} {sum:Nat} {c:List UInt8} (h0:0≤q) (h1:q≤1099511627776) (hc:c.length≤4294967296) (hi:Hid (idIs c=true)) (hs:sum ≠ 0) :
  Calls Tryz.prog 53 #[.agg #[.int .i64 1,.int .i64 q,.bool false,.string ⟨c.toArray⟩,.int .i64 0,.int .i64 0,.int .i64 0,.string ⟨#[]⟩,.int .u64 sum,.slice ta tt.length tc]] w fun e w' => e=.returned (.bool false)∧Below w.heap.size w w':=by
 have t1:decide (q < 0)=false:=by simp; omega
 have t2:decide (1099511627776 < q)=false:=by simp; omega
 clear h0 h1
 have ts:((sum:Int) == 0)=false:=by rw [beq_eq_false_iff_ne]; omega
 clear hs
 obtain⟨FB,HB⟩:=ent1 w (.cells #[.int .i64 1,.int .i64 q,.bool false,.string ⟨c.toArray⟩,.int .i64 0,.int .i64 0,.int .i64 0,.string ⟨#[]⟩,.int .u64 sum,.slice ta tt.length tc] 56)
 have V:=hZq (hv.later HB.out)
 clear hv
 go_enter Tryz.func53,Tryz.ntmps53
 have FBo:=blk10 FB.out
 go_wp2_with fail
 clear FBo
 refine (ris_eqF c hc hi _).mono ?_
 rintro e w2 ⟨rfl,b2⟩
 replace FB:=hZq (upQ FB.out b2)
 replace V:=hZq (V.out.later b2)
 replace HB:=hZq (below2Z HB.out b2)
 clear b2
 have FBo:=blk10 FB.out
 go_wp2_with fail
 clear FBo
 go_ret
 exact⟨rfl,HB.out⟩

theorem rfm_1oz {w:World} {ta:Option Addr} {tc:Nat} (hv:Tab w (.slice ta 0 tc) []) {q:Int} {c:List UInt8} (h0:0≤q) (h1:q≤1099511627776) (hc:c.length≤4294967296) (hi:Hid (idIs c=true)) :
  Calls Tryz.prog 53 #[.agg #[.int .i64 1,.int .i64 q,.bool false,.string ⟨c.toArray⟩,.int .i64 0,.int .i64 0,.int .i64 0,.string ⟨#[]⟩,.int .u64 0,.slice ta 0 tc]] w fun e w' => e=.returned (.bool true)∧Below w.heap.size w w':=by
 have t1:decide (q < 0)=false:=by simp; omega
 have t2:decide (1099511627776 < q)=false:=by simp; omega
 clear h0 h1
 obtain⟨FB,HB⟩:=ent1 w (.cells #[.int .i64 1,.int .i64 q,.bool false,.string ⟨c.toArray⟩,.int .i64 0,.int .i64 0,.int .i64 0,.string ⟨#[]⟩,.int .u64 0,.slice ta 0 tc] 56)
 have V:=hZq (hv.later HB.out)
 clear hv
 go_enter Tryz.func53,Tryz.ntmps53
 have FBo:=blk10 FB.out
 go_wp2_with fail
 clear FBo
 refine (ris_eqF c hc hi _).mono ?_
 rintro e w2 ⟨rfl,b2⟩
 replace FB:=hZq (upQ FB.out b2)
 replace V:=hZq (V.out.later b2)
 replace HB:=hZq (below2Z HB.out b2)
 clear b2
 have FBo:=blk10 FB.out
 go_wp2_with fail
 clear FBo
 go_ret
 exact⟨rfl,HB.out⟩

theorem rfm_1ozl {w:World} {ta:Option Addr} {tc:Nat} {y:Row} {ys:List Row} (hv:Tab w (.slice ta (ys.length+1) tc) (y :: ys)) {q:Int} {c:List UInt8} (h0:0≤q) (h1:q≤1099511627776) (hc:c.length≤4294967296) (hi:Hid (idIs c=true)) :
  Calls Tryz.prog 53 #[.agg #[.int .i64 1,.int .i64 q,.bool false,.string ⟨c.toArray⟩,.int .i64 0,.int .i64 0,.int .i64 0,.string ⟨#[]⟩,.int .u64 0,.slice ta (ys.length+1) tc]] w fun e w' => e=.returned (.bool false)∧Below w.heap.size w w':=by
 have t1:decide (q < 0)=false:=by simp; omega
 have t2:decide (1099511627776 < q)=false:=by simp; omega
 clear h0 h1
 have tl:(((ys.length+1:Nat):Int) == 0)=false:=by rw [beq_eq_false_iff_ne]; omega
 have tl2:((ys.length:Int)+1 == 0)=false:=by rw [beq_eq_false_iff_ne]; omega
 obtain⟨FB,HB⟩:=ent1 w (.cells #[.int .i64 1,.int .i64 q,.bool false,.string ⟨c.toArray⟩,.int .i64 0,.int .i64 0,.int .i64 0,.string ⟨#[]⟩,.int .u64 0,.slice ta (ys.length+1) tc] 56)
 have V:=hZq (hv.later HB.out)
 clear hv
 go_enter Tryz.func53,Tryz.ntmps53
 have FBo:=blk10 FB.out
 go_wp2_with fail
 clear FBo
 refine (ris_eqF c hc hi _).mono ?_
 rintro e w2 ⟨rfl,b2⟩
 replace FB:=hZq (upQ FB.out b2)
 replace V:=hZq (V.out.later b2)
 replace HB:=hZq (below2Z HB.out b2)
 clear b2
 have FBo:=blk10 FB.out
 go_wp2_with fail
 clear FBo
 go_ret
 exact⟨rfl,HB.out⟩

theorem rfrmay_any {w:World} {v:Value} {k q sh pr si:Int} {on:Bool} {c st:List UInt8} {sum:Nat} {tt:List Row} (hv:Tab w v tt) (hsh:Short tt) (hc:c.length≤4294967296) (hst:st.length≤4294967296) {r:Bool} (h:Hid (frMay ⟨k,q,on,c,⟨sh,pr,si,st⟩,sum,tt⟩=r)) :
  Calls Tryz.prog 53 #[.agg #[.int .i64 k,.int .i64 q,.bool on,.string ⟨c.toArray⟩,.int .i64 sh,.int .i64 pr,.int .i64 si,.string ⟨st.toArray⟩,.int .u64 sum,v]] w fun e w' => e=.returned (.bool r)∧Below w.heap.size w w':=by
 obtain⟨ta,tc,rfl,-⟩:=hv.open'
 have e:=h.out
 clear h
 by_cases hlo:q < 0
 ·obtain rfl:false=r:=by rw [← e]; unfold frMay; rw [decide_eq_false (p:=0≤q) (by omega)]; simp
  exact rfm_low hv hlo
 by_cases hhi:1099511627776 < q
 ·obtain rfl:false=r:=by rw [← e]; unfold frMay; rw [decide_eq_false (p:=q≤1099511627776) (by omega)]; simp
  exact rfm_high hv hhi
 have h0:0≤q:=by omega
 have h1:q≤1099511627776:=by omega
 by_cases hk:k < 1∨4 < k
 ·obtain rfl:false=r:=by
   rw [← e]; unfold frMay
   rcases hk with hk | hk
   ·rw [decide_eq_false (p:=1≤k) (by omega)]; rfl
   ·rw [decide_eq_false (p:=k≤4) (by omega)]; simp
  exact rfm_kind hv h0 h1 hk
 have e2:frRest ⟨k,q,on,c,⟨sh,pr,si,st⟩,sum,tt⟩=r:=by
  rw [← e]; unfold frMay
  rw [decide_eq_true (p:=1≤k) (by omega),decide_eq_true (p:=k≤4) (by omega),decide_eq_true h0,decide_eq_true h1]
  rfl
 clear e hlo hhi
 have hk4:k=1∨k=2∨k=3∨k=4:=by omega
 clear hk
 unfold frRest at e2
 simp only at e2
 rcases hk4 with rfl | rfl | rfl | rfl
 ·rw [if_pos rfl] at e2
  cases hi:idIs c with
  | false =>
   obtain rfl:false=r:=by rw [← e2,hi]; simp
   exact rfm_1i hv h0 h1 hc (hZq hi)
  | true =>
   rw [hi,Bool.true_and] at e2
   cases on with
   | true =>
    rw [if_pos rfl] at e2
    cases hm:vaMay ⟨sh,pr,si,st⟩ with
    | false =>
     obtain rfl:false=r:=by rw [← e2,hm]; simp
     exact rfm_1m hv h0 h1 hc (hZq hi) hst (hZq hm)
    | true =>
     by_cases hs:sum=0
     ·subst hs
      cases tt with
      | nil =>
       obtain rfl:true=r:=by rw [← e2,hm]; simp
       exact rfm_1z hv h0 h1 hc (hZq hi) hst (hZq hm)
      | cons y ys =>
       obtain rfl:false=r:=by rw [← e2,hm]; simp
       exact rfm_1zl hv h0 h1 hc (hZq hi) hst (hZq hm)
     ·obtain rfl:false=r:=by rw [← e2,decide_eq_false hs]; rfl
      exact rfm_1s hv h0 h1 hc (hZq hi) hst (hZq hm) hs
   | false =>
    rw [if_neg (by simp)] at e2
    cases hz:vSame ⟨sh,pr,si,st⟩ Val.zero with
    | false =>
     obtain rfl:false=r:=by rw [← e2,hz]; simp
     exact rfm_1ov hv h0 h1 hc (hZq hi) hz
    | true =>
     rw [hz] at e2
     have hz2:=vSame_iff.1 hz
     simp only [Val.zero,Val.mk.injEq] at hz2
     obtain⟨rfl,rfl,rfl,rfl⟩:=hz2
     by_cases hs:sum=0
     ·subst hs
      cases tt with
      | nil =>
       obtain rfl:true=r:=by rw [← e2]; simp
       exact rfm_1oz hv h0 h1 hc (hZq hi)
      | cons y ys =>
       obtain rfl:false=r:=by rw [← e2]; simp
       exact rfm_1ozl hv h0 h1 hc (hZq hi)
     ·obtain rfl:false=r:=by rw [← e2,decide_eq_false hs]; rfl
      exact rfm_1os hv h0 h1 hc (hZq hi) hs
 ·rw [if_neg (by decide),if_pos rfl] at e2
  cases on with
  | true =>
   obtain rfl:false=r:=by rw [← e2]; rfl
   exact rfm_2on hv h0 h1
  | false =>
   cases c with
   | cons x c0 =>
    obtain rfl:false=r:=by rw [← e2]; simp
    exact rfm_2c hv h0 h1
   | nil =>
    cases hz:vSame ⟨sh,pr,si,st⟩ Val.zero with
    | false =>
     obtain rfl:false=r:=by rw [← e2,hz]; simp
     exact rfm_2v hv h0 h1 hz
    | true =>
     rw [hz] at e2
     have hz2:=vSame_iff.1 hz
     simp only [Val.zero,Val.mk.injEq] at hz2
     obtain⟨rfl,rfl,rfl,rfl⟩:=hz2
     cases tt with
     | nil =>
      obtain rfl:true=r:=by rw [← e2]; simp
      exact rfm_2z hv h0 h1
     | cons y ys =>
      obtain rfl:false=r:=by rw [← e2]; simp
      exact rfm_2zl hv h0 h1
 ·rw [if_neg (by decide),if_neg (by decide),if_pos rfl] at e2
  cases on with
  | true =>
   obtain rfl:false=r:=by rw [← e2]; rfl
   exact rfm_3on hv h0 h1
  | false =>
   cases c with
   | cons x c0 =>
    obtain rfl:false=r:=by rw [← e2]; simp
    exact rfm_3c hv h0 h1
   | nil =>
    cases hz:vSame ⟨sh,pr,si,st⟩ Val.zero with
    | false =>
     obtain rfl:false=r:=by rw [← e2,hz]; simp
     exact rfm_3v hv h0 h1 hz
    | true =>
     rw [hz] at e2
     have hz2:=vSame_iff.1 hz
     simp only [Val.zero,Val.mk.injEq] at hz2
     obtain⟨rfl,rfl,rfl,rfl⟩:=hz2
     by_cases hs:sum=0
     ·subst hs
      obtain hd:diMay tt=r:=by rw [← e2]; simp
      exact rfm_3z hv h0 h1 (hZq hsh) (hZq hd)
     ·obtain rfl:false=r:=by rw [← e2,decide_eq_false hs]; simp
      exact rfm_3s hv h0 h1 hs
 ·rw [if_neg (by decide),if_neg (by decide),if_neg (by decide)] at e2
  cases on with
  | true =>
   obtain rfl:false=r:=by rw [← e2]; rfl
   exact rfm_4on hv h0 h1
  | false =>
   cases c with
   | cons x c0 =>
    obtain rfl:false=r:=by rw [← e2]; simp
    exact rfm_4c hv h0 h1
   | nil =>
    cases hz:vSame ⟨sh,pr,si,st⟩ Val.zero with
    | false =>
     obtain rfl:false=r:=by rw [← e2,hz]; simp
     exact rfm_4v hv h0 h1 hz
    | true =>
     rw [hz] at e2
     have hz2:=vSame_iff.1 hz
     simp only [Val.zero,Val.mk.injEq] at hz2
     obtain⟨rfl,rfl,rfl,rfl⟩:=hz2
     by_cases hs:sum=0
     ·subst hs
      cases tt with
      | nil =>
       obtain rfl:true=r:=by rw [← e2]; simp
       exact rfm_4z hv h0 h1
      | cons y ys =>
       obtain rfl:false=r:=by rw [← e2]; simp
       exact rfm_4zl hv h0 h1
     ·obtain rfl:false=r:=by rw [← e2,decide_eq_false hs]; simp
      exact rfm_4s hv h0 h1 hs
end Go.Proofs.YtmpigdokghngiaaGreat
