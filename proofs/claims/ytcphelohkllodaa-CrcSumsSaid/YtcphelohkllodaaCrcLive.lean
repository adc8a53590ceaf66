/-
  THE CONTRACT OF live OF LAYER 2's STATEMENTS: it returns true.
-/
import Derived.Test.YtcphelohkllodaaCrcSeal
namespace Go.Proofs.Ytcphelohkllodaa
open Go.RowKit

theorem sum_eq {l : List UInt8} (hl : l.length ≤ 4294967296) {n : Nat} (h : Hid (csum l = n)) (w : World) :
    Calls Try.prog 30 #[.string ⟨l.toArray⟩] w fun e w' => e = .returned (.int .u32 n) ∧ Below w.heap.size w w' := by
  have := sum_any l hl w
  rwa [h.out] at this

theorem seal_eq {l : List UInt8} (hl : l.length ≤ 4294967296) {t : List UInt8} (h : Hid (cseal l = t)) (w : World) :
    Calls Try.prog 32 #[.string ⟨l.toArray⟩] w fun e w' => e = .returned (.string ⟨t.toArray⟩) ∧ Below w.heap.size w w' := by
  have := seal_any l hl w
  rwa [h.out] at this

theorem open_eq {l : List UInt8} (hl : l.length ≤ 4294967296) {t : List UInt8} {n : Nat} (h : Hid (copen l = (t, n))) (w : World) :
    Calls Try.prog 26 #[.string ⟨l.toArray⟩] w fun e w' => e = .returned (.tuple #[.string ⟨t.toArray⟩, .int .i64 n]) ∧ Below w.heap.size w w' := by
  have := open_any l hl w
  rwa [h.out] at this

theorem ropen_eq {l : List UInt8} (hl : l.length ≤ 4294967296) {t : List UInt8} {n : Nat} (h : Hid (copen l = (t, n))) (w : World) :
    Calls Try.prog 27 #[.string ⟨l.toArray⟩] w fun e w' => e = .returned (.tuple #[.string ⟨t.toArray⟩, .int .i64 n]) ∧ Below w.heap.size w w' := by
  have := ropen_any l hl w
  rwa [h.out] at this

theorem m1 : Hid (csum [49, 50, 51, 52, 53, 54, 55, 56, 57] = 3421780262) := by show _ = _; decide +kernel
theorem m2 : Hid (cseal [49, 50, 51, 52, 53, 54, 55, 56, 57] = [49, 50, 51, 52, 53, 54, 55, 56, 57, 38, 57, 244, 203]) := by show _ = _; decide +kernel
theorem m3 : Hid (copen [49, 50, 51, 52, 53, 54, 55, 56, 57, 38, 57, 244, 203] = ([49, 50, 51, 52, 53, 54, 55, 56, 57], 0)) := by show _ = _; decide +kernel
theorem m4 : Hid (copen [97, 98, 99] = ([], 2)) := by show _ = _; decide +kernel
theorem m5 : Hid (copen [49, 50, 51, 52, 53, 54, 55, 56, 38, 57, 244, 203] = ([], 4)) := by show _ = _; decide +kernel
theorem m6 : Hid (csum [] = 0) := by show _ = _; decide +kernel
theorem m7 : Hid (cstep 0 0 = 0) := by show _ = _; decide +kernel

set_option maxHeartbeats 400000 in
set_option maxRecDepth 1000000 in
theorem live2 (w : World) : Calls Try.prog 25 #[] w fun e w' => e = .returned (.bool true) ∧ Below w.heap.size w w' := by
  go_enter Try.func25, Try.ntmps25
  go_wp2_with fail
  refine (seal_eq (by decide) m2 _).mono ?_
  rintro e w1 ⟨rfl, hb1⟩
  go_wp2_with fail
  refine (open_eq (by decide) m3 _).mono ?_
  rintro e w2 ⟨rfl, hb2⟩
  go_wp2_with fail
  refine (open_eq (by decide) m4 _).mono ?_
  rintro e w3 ⟨rfl, hb3⟩
  go_wp2_with fail
  refine (open_eq (by decide) m5 _).mono ?_
  rintro e w4 ⟨rfl, hb4⟩
  go_wp2_with fail
  refine (sum_eq (by decide) m1 _).mono ?_
  rintro e w5 ⟨rfl, hb5⟩
  go_wp2_with fail
  refine (sum_eq (by decide) m6 _).mono ?_
  rintro e w6 ⟨rfl, hb6⟩
  go_wp2_with fail
  refine (step_eq 0 0 (by decide) (by decide) m7 _).mono ?_
  rintro e w' ⟨rfl, rfl⟩
  go_wp2_with fail
  go_ret
  exact ⟨rfl, below3 (below3 hb1 hb2 hb3) (below2' hb4 hb5) hb6⟩

end Go.Proofs.Ytcphelohkllodaa
