/-
  THE WALK OF IdentTakes, out of the contracts.
-/
import Derived.Test.YtmbgdkelghoghaaIdLive
namespace Go.Proofs.Ytmbgdkelghoghaa
open Go.RowKit

set_option maxHeartbeats 800000 in
set_option maxRecDepth 1000000 in
theorem walkIdentTakes {w : World} (l : List UInt8) (_hl : l.length ≤ maxLen) (p : Int) (_ : (Lit.int .i64 p).wf = true) :
    Calls Try.prog 4 #[.string ⟨l.toArray⟩, .int .i64 p] w fun e w' => e = .returned (.bool true) ∧ Below w.heap.size w w' := by
  unfold maxLen at _hl
  by_cases h : 300 < l.length
  · go_enter Try.func4, Try.ntmps4
    go_wp2_with fail
    refine (live3 _).mono ?_
    rintro e w1 ⟨rfl, b⟩
    go_wp2_with fail
    go_ret
    exact ⟨rfl, b⟩
  · have hl' : l.length ≤ 4294967296 := by omega
    obtain ⟨t, f, er, ht⟩ : ∃ t f er, Hid (idTake l p = (t, f, er)) := ⟨_, _, _, rfl⟩
    go_enter Try.func4, Try.ntmps4
    go_wp2_with fail
    refine (idtake_eq l hl' p ht _).mono ?_
    rintro e w1 ⟨rfl, b⟩
    have B1 := Lib.hid b
    clear b
    go_wp2_with fail
    refine (ridtake_eq l hl' p ht _).mono ?_
    rintro e w2 ⟨rfl, rfl⟩
    go_wp2_with fail
    refine (live3 _).mono ?_
    rintro e w7 ⟨rfl, b⟩
    have B7 := Lib.hid (below2' B1.out b)
    clear b B1
    go_wp2_with fail
    go_ret
    exact ⟨rfl, B7.out⟩

end Go.Proofs.Ytmbgdkelghoghaa
