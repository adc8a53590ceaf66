/-
  THE WALK OF VarintPuts, out of the contracts.
-/
import Derived.Test.YtcphelohkllodaaVarLive
import Derived.OpenShut
namespace Go.Proofs.Ytcphelohkllodaa
open Go.RowKit

set_option maxHeartbeats 400000 in
set_option maxRecDepth 1000000 in
theorem walkVarintPuts (n : Int) (hn : (Lit.int .u64 n).wf = true) (l : List UInt8) (_hl : l.length ≤ maxLen) (w : World) :
    Calls Try.prog 3 #[.int .u64 n, .string ⟨l.toArray⟩] w fun e w' => e = .returned (.bool true) ∧ Below w.heap.size w w' := by
  have hb := bounds_u64 hn
  obtain ⟨k, rfl⟩ := Int.eq_ofNat_of_zero_le hb.1
  have hk : k < 18446744073709551616 := by omega
  clear hb hn
  unfold maxLen at _hl
  by_cases h : 1000 < l.length
  · go_enter Try.func3, Try.ntmps3
    go_wp2_with fail
    refine (live1 _).mono ?_
    rintro e w1 ⟨rfl, hb1⟩
    go_wp2_with fail
    go_ret
    exact ⟨rfl, hb1⟩
  · have hl : l.length ≤ 4294967296 := by omega
    go_enter Try.func3, Try.ntmps3
    go_wp2_with fail
    refine (put_any k hk _).mono ?_
    rintro e w1 ⟨rfl, hb1⟩
    go_wp2_with fail
    refine (rput_any k hk _).mono ?_
    rintro e w2 ⟨rfl, hb2⟩
    go_wp2_with fail
    refine (size_any k hk _).mono ?_
    rintro e w' ⟨rfl, rfl⟩
    go_wp2_with fail
    refine (rsize_any k hk _).mono ?_
    rintro e w3 ⟨rfl, hb3⟩
    go_wp2_with fail
    refine (text_any l hl _).mono ?_
    rintro e w4 ⟨rfl, hb4⟩
    go_wp2_with fail
    refine (rtext_any l hl _).mono ?_
    rintro e w5 ⟨rfl, hb5⟩
    go_wp2_with fail
    refine (live1 _).mono ?_
    rintro e w6 ⟨rfl, hb6⟩
    go_wp2_with fail
    go_ret
    exact ⟨rfl, below3 (below3 hb1 hb2 hb3) hb4 (below2' hb5 hb6)⟩

end Go.Proofs.Ytcphelohkllodaa
