/-
  THE WALK OF IdentTells, out of the contracts.
-/
import Derived.Test.YtmbgdkelghoghaaIdLive
namespace Go.Proofs.Ytmbgdkelghoghaa
open Go.RowKit

set_option maxHeartbeats 800000 in
set_option maxRecDepth 1000000 in
theorem walkIdentTells {w : World} (l : List UInt8) (_hl : l.length ≤ maxLen) :
    Calls Try.prog 3 #[.string ⟨l.toArray⟩] w fun e w' => e = .returned (.bool true) ∧ Below w.heap.size w w' := by
  unfold maxLen at _hl
  by_cases h : 100 < l.length
  · go_enter Try.func3, Try.ntmps3
    go_wp2_with fail
    refine (live3 _).mono ?_
    rintro e w1 ⟨rfl, b⟩
    go_wp2_with fail
    go_ret
    exact ⟨rfl, b⟩
  · have hl' : l.length ≤ 4294967296 := by omega
    obtain ⟨t, r, ht⟩ : ∃ t r, Hid (idFold l = (t, r)) := ⟨_, _, rfl⟩
    obtain ⟨u, s, hu⟩ : ∃ u s, Hid (idPut l = (u, s)) := ⟨_, _, rfl⟩
    obtain ⟨q, hq⟩ : ∃ q, Hid (idIs l = q) := ⟨_, rfl⟩
    go_enter Try.func3, Try.ntmps3
    go_wp2_with fail
    refine (fold_eq l hl' ht _).mono ?_
    rintro e w1 ⟨rfl, b⟩
    have B1 := Lib.hid b
    clear b
    go_wp2_with fail
    refine (rfold_eq l hl' ht _).mono ?_
    rintro e w2 ⟨rfl, b⟩
    have B2 := Lib.hid (below2' B1.out b)
    clear b B1
    go_wp2_with fail
    refine (idput_eq l hl' hu _).mono ?_
    rintro e w3 ⟨rfl, b⟩
    have B3 := Lib.hid (below2' B2.out b)
    clear b B2
    go_wp2_with fail
    refine (ridput_eq l hl' hu _).mono ?_
    rintro e w4 ⟨rfl, b⟩
    have B4 := Lib.hid (below2' B3.out b)
    clear b B3
    go_wp2_with fail
    refine (is_eq l hl' hq _).mono ?_
    rintro e w5 ⟨rfl, b⟩
    have B5 := Lib.hid (below2' B4.out b)
    clear b B4
    go_wp2_with fail
    refine (ris_eq l hl' hq _).mono ?_
    rintro e w6 ⟨rfl, rfl⟩
    go_wp2_with fail
    refine (live3 _).mono ?_
    rintro e w7 ⟨rfl, b⟩
    have B7 := Lib.hid (below2' B5.out b)
    clear b B5
    go_wp2_with fail
    go_ret
    exact ⟨rfl, B7.out⟩

end Go.Proofs.Ytmbgdkelghoghaa
