/-
  THE CONTRACT OF live OF LAYER 1's STATEMENTS: it returns true.
-/
import Derived.Test.YtcphelohkllodaaVarTake
namespace Go.Proofs.Ytcphelohkllodaa
open Go.RowKit

theorem put_eq {n : Nat} {l : List UInt8} (h : Hid (vput n = l)) (hn : n < 18446744073709551616) (w : World) :
    Calls Try.prog 15 #[.int .u64 n] w fun e w' => e = .returned (.string ⟨l.toArray⟩) ∧ Below w.heap.size w w' := by
  have := put_any n hn w
  rwa [h.out] at this

theorem size_eq {n k : Nat} (h : Hid ((vput n).length = k)) (hn : n < 18446744073709551616) (w : World) :
    Calls Try.prog 17 #[.int .u64 n] w fun e w' => e = .returned (.int .i64 k) ∧ w = w' := by
  have := size_any n hn w
  rwa [h.out] at this

theorem text_eq (l : List UInt8) (hl : l.length ≤ 4294967296) (w : World) {t : List UInt8} (h : Hid (vput l.length ++ l = t)) :
    Calls Try.prog 19 #[.string ⟨l.toArray⟩] w fun e w' => e = .returned (.string ⟨t.toArray⟩) ∧ Below w.heap.size w w' := by
  have := text_any l hl w
  rwa [h.out] at this

theorem k1 : Hid (vget [120, 172, 2, 121] 1 = (300, 3, 0)) := by show _ = _; decide +kernel
theorem k2 : Hid (vget [172] 0 = (0, 0, 2)) := by show _ = _; decide +kernel
theorem k3 : Hid (vget [128, 0] 0 = (0, 0, 3)) := by show _ = _; decide +kernel
theorem k4 : Hid (vget [120] 2 = (0, 0, 1)) := by show _ = _; decide +kernel
theorem k5 : Hid (vtake [2, 104, 105, 120] 0 9 = ([104, 105], 3, 0)) := by show _ = _; decide +kernel
theorem k6 : Hid (vtake [2, 104, 105, 120] 0 1 = ([], 0, 3)) := by show _ = _; decide +kernel
theorem k7 : Hid (vtake [5, 104, 105, 120] 0 9 = ([], 0, 2)) := by show _ = _; decide +kernel
theorem k8 : Hid (vput 300 = [172, 2]) := by show _ = _; decide +kernel
theorem k9 : Hid (vput 0 = [0]) := by show _ = _; decide +kernel
theorem k10 : Hid ((vput 300).length = 2) := by show _ = _; decide +kernel
theorem k11 : Hid (vput ([104, 105] : List UInt8).length ++ [104, 105] = [2, 104, 105]) := by show _ = _; decide +kernel

set_option maxHeartbeats 400000 in
set_option maxRecDepth 1000000 in
theorem live1 (w : World) : Calls Try.prog 14 #[] w fun e w' => e = .returned (.bool true) ∧ Below w.heap.size w w' := by
  go_enter Try.func14, Try.ntmps14
  go_wp2_with fail
  refine (get_eq [120, 172, 2, 121] (by decide) 1 _ k1).mono ?_
  rintro e w' ⟨rfl, rfl⟩
  go_wp2_with fail
  refine (get_eq [172] (by decide) 0 _ k2).mono ?_
  rintro e w' ⟨rfl, rfl⟩
  go_wp2_with fail
  refine (get_eq [128, 0] (by decide) 0 _ k3).mono ?_
  rintro e w' ⟨rfl, rfl⟩
  go_wp2_with fail
  refine (get_eq [120] (by decide) 2 _ k4).mono ?_
  rintro e w' ⟨rfl, rfl⟩
  go_wp2_with fail
  refine (take_eq [2, 104, 105, 120] (by decide) 0 9 (by decide) _ k5).mono ?_
  rintro e w' ⟨rfl, rfl⟩
  go_wp2_with fail
  refine (take_eq [2, 104, 105, 120] (by decide) 0 1 (by decide) _ k6).mono ?_
  rintro e w' ⟨rfl, rfl⟩
  go_wp2_with fail
  refine (take_eq [5, 104, 105, 120] (by decide) 0 9 (by decide) _ k7).mono ?_
  rintro e w' ⟨rfl, rfl⟩
  go_wp2_with fail

  refine (put_eq k8 (by decide) _).mono ?_
  rintro e w1 ⟨rfl, hb1⟩
  go_wp2_with fail
  refine (put_eq k9 (by decide) _).mono ?_
  rintro e w2 ⟨rfl, hb2⟩
  go_wp2_with fail
  refine (size_eq k10 (by decide) _).mono ?_
  rintro e w' ⟨rfl, rfl⟩
  go_wp2_with fail
  refine (text_eq [104, 105] (by decide) _ k11).mono ?_
  rintro e w3 ⟨rfl, hb3⟩
  go_wp2_with fail
  go_ret
  exact ⟨rfl, hb1.trans ((hb2.mono hb1.size).trans (hb3.mono (Nat.le_trans hb1.size hb2.size)))⟩

end Go.Proofs.Ytcphelohkllodaa
