/-
 TEXTS OF THE PROOF, one behind the other: FraRfm.
-/
import Derived.Test.YtmpigdokghngiaaGreatQ05
import Derived.Test.YtmpigdokghngiaaGreatQ02

set_option maxHeartbeats 12800000
set_option maxRecDepth 100000

namespace Go.Proofs.YtmpigdokghngiaaGreat
open Go.RowKit

theorem rfm_4z {w:World} {ta:Option Addr} {tc:Nat} (hv:Tab w (.slice ta 0 tc) []) {q:Int} (h0:0≤q) (h1:q≤1099511627776)  :
  Calls Tryz.prog 53 #[.agg #[.int .i64 4,.int .i64 q,.bool false,.string ⟨#[]⟩,.int .i64 0,.int .i64 0,.int .i64 0,.string ⟨#[]⟩,.int .u64 0,.slice ta 0 tc]] w fun e w' => e=.returned (.bool true)∧Below w.heap.size w w':=by
 have t1:decide (q < 0)=false:=by simp; omega
 have t2:decide (1099511627776 < q)=false:=by simp; omega
 clear h0 h1
 obtain⟨FB,HB⟩:=ent1 w (.cells #[.int .i64 4,.int .i64 q,.bool false,.string ⟨#[]⟩,.int .i64 0,.int .i64 0,.int .i64 0,.string ⟨#[]⟩,.int .u64 0,.slice ta 0 tc] 56)
 have V:=hZq (hv.later HB.out)
 clear hv
 go_enter Tryz.func53,Tryz.ntmps53
 have FBo:=blk10 FB.out
 go_wp2_with fail
 clear FBo
 go_ret
 exact⟨rfl,HB.out⟩
end Go.Proofs.YtmpigdokghngiaaGreat
