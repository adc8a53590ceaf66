/-
  THE WALK OF VarintGets, out of the contracts.
-/
import Derived.Test.YtcphelohkllodaaVarLive
import Derived.OpenShut
namespace Go.Proofs.Ytcphelohkllodaa
open Go.RowKit

set_option maxHeartbeats 400000 in
set_option maxRecDepth 1000000 in
theorem walkVarintGets (l : List UInt8) (_hl : l.length ≤ maxLen) (p : Int) (_hp : (Lit.int .i64 p).wf = true) (most : Int) (hm : (Lit.int .i64 most).wf = true) (w : World) :
    Calls Try.prog 4 #[.string ⟨l.toArray⟩, .int .i64 p, .int .i64 most] w fun e w' => e = .returned (.bool true) ∧ Below w.heap.size w w' := by
  have hm' := (bounds_i64 hm).2
  clear hm _hp
  unfold maxLen at _hl
  by_cases h : 1000 < l.length
  · go_enter Try.func4, Try.ntmps4
    go_wp2_with fail
    refine (live1 _).mono ?_
    rintro e w1 ⟨rfl, hb1⟩
    go_wp2_with fail
    go_ret
    exact ⟨rfl, hb1⟩
  · have hl : l.length ≤ 4294967296 := by omega
    obtain ⟨n, f, er, hg⟩ : ∃ n f er, Hid (vget l p = (n, f, er)) := ⟨_, _, _, rfl⟩
    obtain ⟨t, g, es, ht⟩ : ∃ t g es, Hid (vtake l p most = (t, g, es)) := ⟨_, _, _, rfl⟩
    go_enter Try.func4, Try.ntmps4
    go_wp2_with fail
    refine (get_eq l hl p _ hg).mono ?_
    rintro e w' ⟨rfl, rfl⟩
    go_wp2_with fail
    refine (rget_eq l hl p _ hg).mono ?_
    rintro e w' ⟨rfl, rfl⟩
    go_wp2_with fail
    refine (take_eq l hl p most hm' _ ht).mono ?_
    rintro e w' ⟨rfl, rfl⟩
    go_wp2_with fail
    refine (rtake_eq l hl p most hm' _ ht).mono ?_
    rintro e w' ⟨rfl, rfl⟩
    go_wp2_with fail
    refine (live1 _).mono ?_
    rintro e w1 ⟨rfl, hb1⟩
    go_wp2_with fail
    go_ret
    exact ⟨rfl, hb1⟩

end Go.Proofs.Ytcphelohkllodaa
