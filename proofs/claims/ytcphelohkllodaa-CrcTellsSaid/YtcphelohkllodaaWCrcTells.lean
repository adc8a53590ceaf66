/-
  THE WALK OF CrcTells, out of the contracts.
-/
import Derived.Test.YtcphelohkllodaaCrcLive
import Derived.OpenShut
namespace Go.Proofs.Ytcphelohkllodaa
open Go.RowKit

set_option maxHeartbeats 400000 in
set_option maxRecDepth 1000000 in
theorem walkCrcTells {w : World} (c : Int) (hc : (Lit.int .u32 c).wf = true) (b : Int) (hb : (Lit.int .u8 b).wf = true) (l : List UInt8) (_hl : l.length ≤ maxLen) :
    Calls Try.prog 9 #[.int .u32 c, .int .u8 b, .string ⟨l.toArray⟩] w fun e w' => e = .returned (.bool true) ∧ Below w.heap.size w w' := by
  have hc' := bounds_u32 hc
  have hb' := bounds_u8 hb
  obtain ⟨x, rfl⟩ := Int.eq_ofNat_of_zero_le hc'.1
  obtain ⟨y, rfl⟩ := Int.eq_ofNat_of_zero_le hb'.1
  have hx : x < 4294967296 := by omega
  have hy : y < 256 := by omega
  clear hc hb hc' hb'
  unfold maxLen at _hl
  by_cases h : 1000 < l.length
  · go_enter Try.func9, Try.ntmps9
    go_wp2_with fail
    refine (live2 _).mono ?_
    rintro e w1 ⟨rfl, hb1⟩
    go_wp2_with fail
    go_ret
    exact ⟨rfl, hb1⟩
  · have hl : l.length ≤ 4294967296 := by omega
    obtain ⟨t, n, ho⟩ : ∃ t n, Hid (copen l = (t, n)) := ⟨_, _, rfl⟩
    go_enter Try.func9, Try.ntmps9
    go_wp2_with fail
    refine (open_eq hl ho _).mono ?_
    rintro e w1 ⟨rfl, hb1⟩
    go_wp2_with fail
    refine (ropen_eq hl ho _).mono ?_
    rintro e w2 ⟨rfl, hb2⟩
    go_wp2_with fail
    refine (step_any x y hx hy _).mono ?_
    rintro e w' ⟨rfl, rfl⟩
    go_wp2_with fail
    refine (rstep_any x y hx hy _).mono ?_
    rintro e w' ⟨rfl, rfl⟩
    go_wp2_with fail
    refine (sum_any l hl _).mono ?_
    rintro e w3 ⟨rfl, hb3⟩
    go_wp2_with fail
    refine (rsum_any l hl _).mono ?_
    rintro e w' ⟨rfl, rfl⟩
    go_wp2_with fail
    refine (seal_any l hl _).mono ?_
    rintro e w4 ⟨rfl, hb4⟩
    go_wp2_with fail
    refine (rseal_any l hl _).mono ?_
    rintro e w5 ⟨rfl, hb5⟩
    go_wp2_with fail
    refine (live2 _).mono ?_
    rintro e w6 ⟨rfl, hb6⟩
    go_wp2_with fail
    go_ret
    exact ⟨rfl, below3 (below3 hb1 hb2 hb3) hb4 (below2' hb5 hb6)⟩

end Go.Proofs.Ytcphelohkllodaa
