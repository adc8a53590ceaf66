/-
  THE WALK OF SubsSides.
-/
import Derived.Test.YtjlgdhggeejkkaaSubLive
namespace Go.Proofs.Ytjlgdhggeejkkaa
open Go.RowKit

theorem suMay_face {a1 a2 a3 a4 a5 b1 b2 b3 b4 b5 : Bool} (h : suMay ⟨a1, a2, a3, a4, a5⟩ ⟨b1, b2, b3, b4, b5⟩ = true) : b1 = a2 ∧ b2 = a1 ∧ b3 = a4 ∧ b4 = a3 := by
  unfold suMay at h
  simp only [Bool.and_eq_true, beq_iff_eq] at h
  exact ⟨h.2.1.symm, h.1.symm, h.2.2.2.1.symm, h.2.2.1.symm⟩

set_option maxHeartbeats 3200000 in
set_option maxRecDepth 100000 in
theorem sides_not {w : World} (a1 a2 a3 a4 a5 b1 b2 b3 b4 b5 : Bool) (hm : Hid (suMay ⟨a1, a2, a3, a4, a5⟩ ⟨b1, b2, b3, b4, b5⟩ = false)) :
    Calls Try.prog 7 #[.agg #[.bool a1, .bool a2, .bool a3, .bool a4, .bool a5], .agg #[.bool b1, .bool b2, .bool b3, .bool b4, .bool b5]] w fun e w' => e = .returned (.bool true) ∧ Below w.heap.size w w' := by
  have T := twoAt w ⟨a1, a2, a3, a4, a5⟩ ⟨b1, b2, b3, b4, b5⟩ 23 23
  have P := Lib.hid T.1
  have Q := Lib.hid T.2
  have B0 : Hid (Below w.heap.size w ((w.alloc (.cells #[.bool a1, .bool a2, .bool a3, .bool a4, .bool a5] 23)).alloc (.cells #[.bool b1, .bool b2, .bool b3, .bool b4, .bool b5] 23))) := Lib.hid (((Below.refl _ _).alloc (Nat.le_refl _) _).alloc (by simp) _)
  clear T
  go_enter Try.func7, Try.ntmps7
  go_wp2_with fail
  refine (smay_bl a1 a2 a3 a4 a5 b1 b2 b3 b4 b5 (r := false) hm.out _).mono ?_
  rintro e w1 ⟨rfl, b⟩
  have B1 := Lib.hid (below2S B0.out b)
  replace P := Lib.hid (P.out.later b)
  replace Q := Lib.hid (Q.out.later b)
  clear b B0
  obtain ⟨p0, p1, p2, p3, p4⟩ := P.out
  obtain ⟨q0, q1, q2, q3, q4⟩ := Q.out
  simp only at p0 p1 p2 p3 p4 q0 q1 q2 q3 q4
  go_wp2_with fail
  refine (live7 _).mono ?_
  rintro e w2 ⟨rfl, b⟩
  have B2 := Lib.hid (below2S B1.out b)
  replace P := Lib.hid (P.out.later b)
  replace Q := Lib.hid (Q.out.later b)
  clear b B1 p0 p1 p2 p3 p4 q0 q1 q2 q3 q4
  go_wp2_with fail
  go_ret
  exact ⟨rfl, B2.out⟩

set_option maxHeartbeats 3200000 in
set_option maxRecDepth 100000 in
theorem sides_0000 {w : World} (a3 a4 : Bool) (hm : Hid (suMay ⟨false, false, a3, a4, false⟩ ⟨false, false, a4, a3, false⟩ = true)) (hn : Hid (suMay ⟨false, false, a4, a3, false⟩ ⟨false, false, a3, a4, false⟩ = true)) :
    Calls Try.prog 7 #[.agg #[.bool false, .bool false, .bool a3, .bool a4, .bool false], .agg #[.bool false, .bool false, .bool a4, .bool a3, .bool false]] w fun e w' => e = .returned (.bool true) ∧ Below w.heap.size w w' := by
  have T := twoAt w ⟨false, false, a3, a4, false⟩ ⟨false, false, a4, a3, false⟩ 23 23
  have P := Lib.hid T.1
  have Q := Lib.hid T.2
  have B0 : Hid (Below w.heap.size w ((w.alloc (.cells #[.bool false, .bool false, .bool a3, .bool a4, .bool false] 23)).alloc (.cells #[.bool false, .bool false, .bool a4, .bool a3, .bool false] 23))) := Lib.hid (((Below.refl _ _).alloc (Nat.le_refl _) _).alloc (by simp) _)
  clear T
  go_enter Try.func7, Try.ntmps7
  go_wp2_with fail
  refine (smay_bl false false a3 a4 false false false a4 a3 false (r := true) hm.out _).mono ?_
  rintro e w1 ⟨rfl, b⟩
  have B1 := Lib.hid (below2S B0.out b)
  replace P := Lib.hid (P.out.later b)
  replace Q := Lib.hid (Q.out.later b)
  clear b B0
  obtain ⟨p0, p1, p2, p3, p4⟩ := P.out
  obtain ⟨q0, q1, q2, q3, q4⟩ := Q.out
  simp only at p0 p1 p2 p3 p4 q0 q1 q2 q3 q4
  go_wp2_with fail
  refine (sname_eq false false a3 a4 false (r := [110, 111, 110, 101]) rfl _).mono ?_
  rintro e w2 ⟨rfl, b⟩
  have B2 := Lib.hid (below2S B1.out b)
  replace P := Lib.hid (P.out.later b)
  replace Q := Lib.hid (Q.out.later b)
  clear b B1 p0 p1 p2 p3 p4 q0 q1 q2 q3 q4
  obtain ⟨p0, p1, p2, p3, p4⟩ := P.out
  obtain ⟨q0, q1, q2, q3, q4⟩ := Q.out
  simp only at p0 p1 p2 p3 p4 q0 q1 q2 q3 q4
  go_wp2_with fail
  refine (sname_eq false false a4 a3 false (r := [110, 111, 110, 101]) rfl _).mono ?_
  rintro e w3 ⟨rfl, b⟩
  have B3 := Lib.hid (below2S B2.out b)
  replace P := Lib.hid (P.out.later b)
  replace Q := Lib.hid (Q.out.later b)
  clear b B2 p0 p1 p2 p3 p4 q0 q1 q2 q3 q4
  obtain ⟨p0, p1, p2, p3, p4⟩ := P.out
  obtain ⟨q0, q1, q2, q3, q4⟩ := Q.out
  simp only at p0 p1 p2 p3 p4 q0 q1 q2 q3 q4
  go_wp2_with fail
  refine (smay_bl false false a4 a3 false false false a3 a4 false (r := true) hn.out _).mono ?_
  rintro e w4 ⟨rfl, b⟩
  have B4 := Lib.hid (below2S B3.out b)
  replace P := Lib.hid (P.out.later b)
  replace Q := Lib.hid (Q.out.later b)
  clear b B3 p0 p1 p2 p3 p4 q0 q1 q2 q3 q4
  obtain ⟨p0, p1, p2, p3, p4⟩ := P.out
  obtain ⟨q0, q1, q2, q3, q4⟩ := Q.out
  simp only at p0 p1 p2 p3 p4 q0 q1 q2 q3 q4
  go_wp2_with fail
  refine (ssees_eq false false a3 a4 false false false a4 a3 false (r := false) rfl _).mono ?_
  rintro e w5 ⟨rfl, b⟩
  have B5 := Lib.hid (below2S B4.out b)
  replace P := Lib.hid (P.out.later b)
  replace Q := Lib.hid (Q.out.later b)
  clear b B4 p0 p1 p2 p3 p4 q0 q1 q2 q3 q4
  obtain ⟨p0, p1, p2, p3, p4⟩ := P.out
  obtain ⟨q0, q1, q2, q3, q4⟩ := Q.out
  simp only at p0 p1 p2 p3 p4 q0 q1 q2 q3 q4
  go_wp2_with fail
  refine (ssees_eq false false a4 a3 false false false a3 a4 false (r := false) rfl _).mono ?_
  rintro e w6 ⟨rfl, b⟩
  have B6 := Lib.hid (below2S B5.out b)
  replace P := Lib.hid (P.out.later b)
  replace Q := Lib.hid (Q.out.later b)
  clear b B5 p0 p1 p2 p3 p4 q0 q1 q2 q3 q4
  obtain ⟨p0, p1, p2, p3, p4⟩ := P.out
  obtain ⟨q0, q1, q2, q3, q4⟩ := Q.out
  simp only at p0 p1 p2 p3 p4 q0 q1 q2 q3 q4
  go_wp2_with fail
  refine (live7 _).mono ?_
  rintro e w7 ⟨rfl, b⟩
  have B7 := Lib.hid (below2S B6.out b)
  replace P := Lib.hid (P.out.later b)
  replace Q := Lib.hid (Q.out.later b)
  clear b B6 p0 p1 p2 p3 p4 q0 q1 q2 q3 q4
  go_wp2_with fail
  go_ret
  exact ⟨rfl, B7.out⟩

set_option maxHeartbeats 3200000 in
set_option maxRecDepth 100000 in
theorem sides_0001 {w : World} (a3 a4 : Bool) (hm : Hid (suMay ⟨false, false, a3, a4, false⟩ ⟨false, false, a4, a3, true⟩ = true)) (hn : Hid (suMay ⟨false, false, a4, a3, true⟩ ⟨false, false, a3, a4, false⟩ = true)) :
    Calls Try.prog 7 #[.agg #[.bool false, .bool false, .bool a3, .bool a4, .bool false], .agg #[.bool false, .bool false, .bool a4, .bool a3, .bool true]] w fun e w' => e = .returned (.bool true) ∧ Below w.heap.size w w' := by
  have T := twoAt w ⟨false, false, a3, a4, false⟩ ⟨false, false, a4, a3, true⟩ 23 23
  have P := Lib.hid T.1
  have Q := Lib.hid T.2
  have B0 : Hid (Below w.heap.size w ((w.alloc (.cells #[.bool false, .bool false, .bool a3, .bool a4, .bool false] 23)).alloc (.cells #[.bool false, .bool false, .bool a4, .bool a3, .bool true] 23))) := Lib.hid (((Below.refl _ _).alloc (Nat.le_refl _) _).alloc (by simp) _)
  clear T
  go_enter Try.func7, Try.ntmps7
  go_wp2_with fail
  refine (smay_bl false false a3 a4 false false false a4 a3 true (r := true) hm.out _).mono ?_
  rintro e w1 ⟨rfl, b⟩
  have B1 := Lib.hid (below2S B0.out b)
  replace P := Lib.hid (P.out.later b)
  replace Q := Lib.hid (Q.out.later b)
  clear b B0
  obtain ⟨p0, p1, p2, p3, p4⟩ := P.out
  obtain ⟨q0, q1, q2, q3, q4⟩ := Q.out
  simp only at p0 p1 p2 p3 p4 q0 q1 q2 q3 q4
  go_wp2_with fail
  refine (sname_eq false false a3 a4 false (r := [110, 111, 110, 101]) rfl _).mono ?_
  rintro e w2 ⟨rfl, b⟩
  have B2 := Lib.hid (below2S B1.out b)
  replace P := Lib.hid (P.out.later b)
  replace Q := Lib.hid (Q.out.later b)
  clear b B1 p0 p1 p2 p3 p4 q0 q1 q2 q3 q4
  obtain ⟨p0, p1, p2, p3, p4⟩ := P.out
  obtain ⟨q0, q1, q2, q3, q4⟩ := Q.out
  simp only at p0 p1 p2 p3 p4 q0 q1 q2 q3 q4
  go_wp2_with fail
  refine (sname_eq false false a4 a3 true (r := [110, 111, 110, 101]) rfl _).mono ?_
  rintro e w3 ⟨rfl, b⟩
  have B3 := Lib.hid (below2S B2.out b)
  replace P := Lib.hid (P.out.later b)
  replace Q := Lib.hid (Q.out.later b)
  clear b B2 p0 p1 p2 p3 p4 q0 q1 q2 q3 q4
  obtain ⟨p0, p1, p2, p3, p4⟩ := P.out
  obtain ⟨q0, q1, q2, q3, q4⟩ := Q.out
  simp only at p0 p1 p2 p3 p4 q0 q1 q2 q3 q4
  go_wp2_with fail
  refine (smay_bl false false a4 a3 true false false a3 a4 false (r := true) hn.out _).mono ?_
  rintro e w4 ⟨rfl, b⟩
  have B4 := Lib.hid (below2S B3.out b)
  replace P := Lib.hid (P.out.later b)
  replace Q := Lib.hid (Q.out.later b)
  clear b B3 p0 p1 p2 p3 p4 q0 q1 q2 q3 q4
  obtain ⟨p0, p1, p2, p3, p4⟩ := P.out
  obtain ⟨q0, q1, q2, q3, q4⟩ := Q.out
  simp only at p0 p1 p2 p3 p4 q0 q1 q2 q3 q4
  go_wp2_with fail
  refine (ssees_eq false false a3 a4 false false false a4 a3 true (r := false) rfl _).mono ?_
  rintro e w5 ⟨rfl, b⟩
  have B5 := Lib.hid (below2S B4.out b)
  replace P := Lib.hid (P.out.later b)
  replace Q := Lib.hid (Q.out.later b)
  clear b B4 p0 p1 p2 p3 p4 q0 q1 q2 q3 q4
  obtain ⟨p0, p1, p2, p3, p4⟩ := P.out
  obtain ⟨q0, q1, q2, q3, q4⟩ := Q.out
  simp only at p0 p1 p2 p3 p4 q0 q1 q2 q3 q4
  go_wp2_with fail
  refine (ssees_eq false false a4 a3 true false false a3 a4 false (r := false) rfl _).mono ?_
  rintro e w6 ⟨rfl, b⟩
  have B6 := Lib.hid (below2S B5.out b)
  replace P := Lib.hid (P.out.later b)
  replace Q := Lib.hid (Q.out.later b)
  clear b B5 p0 p1 p2 p3 p4 q0 q1 q2 q3 q4
  obtain ⟨p0, p1, p2, p3, p4⟩ := P.out
  obtain ⟨q0, q1, q2, q3, q4⟩ := Q.out
  simp only at p0 p1 p2 p3 p4 q0 q1 q2 q3 q4
  go_wp2_with fail
  refine (live7 _).mono ?_
  rintro e w7 ⟨rfl, b⟩
  have B7 := Lib.hid (below2S B6.out b)
  replace P := Lib.hid (P.out.later b)
  replace Q := Lib.hid (Q.out.later b)
  clear b B6 p0 p1 p2 p3 p4 q0 q1 q2 q3 q4
  go_wp2_with fail
  go_ret
  exact ⟨rfl, B7.out⟩

set_option maxHeartbeats 3200000 in
set_option maxRecDepth 100000 in
theorem sides_0010 {w : World} (a3 a4 : Bool) (hm : Hid (suMay ⟨false, false, a3, a4, true⟩ ⟨false, false, a4, a3, false⟩ = true)) (hn : Hid (suMay ⟨false, false, a4, a3, false⟩ ⟨false, false, a3, a4, true⟩ = true)) :
    Calls Try.prog 7 #[.agg #[.bool false, .bool false, .bool a3, .bool a4, .bool true], .agg #[.bool false, .bool false, .bool a4, .bool a3, .bool false]] w fun e w' => e = .returned (.bool true) ∧ Below w.heap.size w w' := by
  have T := twoAt w ⟨false, false, a3, a4, true⟩ ⟨false, false, a4, a3, false⟩ 23 23
  have P := Lib.hid T.1
  have Q := Lib.hid T.2
  have B0 : Hid (Below w.heap.size w ((w.alloc (.cells #[.bool false, .bool false, .bool a3, .bool a4, .bool true] 23)).alloc (.cells #[.bool false, .bool false, .bool a4, .bool a3, .bool false] 23))) := Lib.hid (((Below.refl _ _).alloc (Nat.le_refl _) _).alloc (by simp) _)
  clear T
  go_enter Try.func7, Try.ntmps7
  go_wp2_with fail
  refine (smay_bl false false a3 a4 true false false a4 a3 false (r := true) hm.out _).mono ?_
  rintro e w1 ⟨rfl, b⟩
  have B1 := Lib.hid (below2S B0.out b)
  replace P := Lib.hid (P.out.later b)
  replace Q := Lib.hid (Q.out.later b)
  clear b B0
  obtain ⟨p0, p1, p2, p3, p4⟩ := P.out
  obtain ⟨q0, q1, q2, q3, q4⟩ := Q.out
  simp only at p0 p1 p2 p3 p4 q0 q1 q2 q3 q4
  go_wp2_with fail
  refine (sname_eq false false a3 a4 true (r := [110, 111, 110, 101]) rfl _).mono ?_
  rintro e w2 ⟨rfl, b⟩
  have B2 := Lib.hid (below2S B1.out b)
  replace P := Lib.hid (P.out.later b)
  replace Q := Lib.hid (Q.out.later b)
  clear b B1 p0 p1 p2 p3 p4 q0 q1 q2 q3 q4
  obtain ⟨p0, p1, p2, p3, p4⟩ := P.out
  obtain ⟨q0, q1, q2, q3, q4⟩ := Q.out
  simp only at p0 p1 p2 p3 p4 q0 q1 q2 q3 q4
  go_wp2_with fail
  refine (sname_eq false false a4 a3 false (r := [110, 111, 110, 101]) rfl _).mono ?_
  rintro e w3 ⟨rfl, b⟩
  have B3 := Lib.hid (below2S B2.out b)
  replace P := Lib.hid (P.out.later b)
  replace Q := Lib.hid (Q.out.later b)
  clear b B2 p0 p1 p2 p3 p4 q0 q1 q2 q3 q4
  obtain ⟨p0, p1, p2, p3, p4⟩ := P.out
  obtain ⟨q0, q1, q2, q3, q4⟩ := Q.out
  simp only at p0 p1 p2 p3 p4 q0 q1 q2 q3 q4
  go_wp2_with fail
  refine (smay_bl false false a4 a3 false false false a3 a4 true (r := true) hn.out _).mono ?_
  rintro e w4 ⟨rfl, b⟩
  have B4 := Lib.hid (below2S B3.out b)
  replace P := Lib.hid (P.out.later b)
  replace Q := Lib.hid (Q.out.later b)
  clear b B3 p0 p1 p2 p3 p4 q0 q1 q2 q3 q4
  obtain ⟨p0, p1, p2, p3, p4⟩ := P.out
  obtain ⟨q0, q1, q2, q3, q4⟩ := Q.out
  simp only at p0 p1 p2 p3 p4 q0 q1 q2 q3 q4
  go_wp2_with fail
  refine (ssees_eq false false a3 a4 true false false a4 a3 false (r := false) rfl _).mono ?_
  rintro e w5 ⟨rfl, b⟩
  have B5 := Lib.hid (below2S B4.out b)
  replace P := Lib.hid (P.out.later b)
  replace Q := Lib.hid (Q.out.later b)
  clear b B4 p0 p1 p2 p3 p4 q0 q1 q2 q3 q4
  obtain ⟨p0, p1, p2, p3, p4⟩ := P.out
  obtain ⟨q0, q1, q2, q3, q4⟩ := Q.out
  simp only at p0 p1 p2 p3 p4 q0 q1 q2 q3 q4
  go_wp2_with fail
  refine (ssees_eq false false a4 a3 false false false a3 a4 true (r := false) rfl _).mono ?_
  rintro e w6 ⟨rfl, b⟩
  have B6 := Lib.hid (below2S B5.out b)
  replace P := Lib.hid (P.out.later b)
  replace Q := Lib.hid (Q.out.later b)
  clear b B5 p0 p1 p2 p3 p4 q0 q1 q2 q3 q4
  obtain ⟨p0, p1, p2, p3, p4⟩ := P.out
  obtain ⟨q0, q1, q2, q3, q4⟩ := Q.out
  simp only at p0 p1 p2 p3 p4 q0 q1 q2 q3 q4
  go_wp2_with fail
  refine (live7 _).mono ?_
  rintro e w7 ⟨rfl, b⟩
  have B7 := Lib.hid (below2S B6.out b)
  replace P := Lib.hid (P.out.later b)
  replace Q := Lib.hid (Q.out.later b)
  clear b B6 p0 p1 p2 p3 p4 q0 q1 q2 q3 q4
  go_wp2_with fail
  go_ret
  exact ⟨rfl, B7.out⟩

set_option maxHeartbeats 3200000 in
set_option maxRecDepth 100000 in
theorem sides_0011 {w : World} (a3 a4 : Bool) (hm : Hid (suMay ⟨false, false, a3, a4, true⟩ ⟨false, false, a4, a3, true⟩ = true)) (hn : Hid (suMay ⟨false, false, a4, a3, true⟩ ⟨false, false, a3, a4, true⟩ = true)) :
    Calls Try.prog 7 #[.agg #[.bool false, .bool false, .bool a3, .bool a4, .bool true], .agg #[.bool false, .bool false, .bool a4, .bool a3, .bool true]] w fun e w' => e = .returned (.bool true) ∧ Below w.heap.size w w' := by
  have T := twoAt w ⟨false, false, a3, a4, true⟩ ⟨false, false, a4, a3, true⟩ 23 23
  have P := Lib.hid T.1
  have Q := Lib.hid T.2
  have B0 : Hid (Below w.heap.size w ((w.alloc (.cells #[.bool false, .bool false, .bool a3, .bool a4, .bool true] 23)).alloc (.cells #[.bool false, .bool false, .bool a4, .bool a3, .bool true] 23))) := Lib.hid (((Below.refl _ _).alloc (Nat.le_refl _) _).alloc (by simp) _)
  clear T
  go_enter Try.func7, Try.ntmps7
  go_wp2_with fail
  refine (smay_bl false false a3 a4 true false false a4 a3 true (r := true) hm.out _).mono ?_
  rintro e w1 ⟨rfl, b⟩
  have B1 := Lib.hid (below2S B0.out b)
  replace P := Lib.hid (P.out.later b)
  replace Q := Lib.hid (Q.out.later b)
  clear b B0
  obtain ⟨p0, p1, p2, p3, p4⟩ := P.out
  obtain ⟨q0, q1, q2, q3, q4⟩ := Q.out
  simp only at p0 p1 p2 p3 p4 q0 q1 q2 q3 q4
  go_wp2_with fail
  refine (sname_eq false false a3 a4 true (r := [110, 111, 110, 101]) rfl _).mono ?_
  rintro e w2 ⟨rfl, b⟩
  have B2 := Lib.hid (below2S B1.out b)
  replace P := Lib.hid (P.out.later b)
  replace Q := Lib.hid (Q.out.later b)
  clear b B1 p0 p1 p2 p3 p4 q0 q1 q2 q3 q4
  obtain ⟨p0, p1, p2, p3, p4⟩ := P.out
  obtain ⟨q0, q1, q2, q3, q4⟩ := Q.out
  simp only at p0 p1 p2 p3 p4 q0 q1 q2 q3 q4
  go_wp2_with fail
  refine (sname_eq false false a4 a3 true (r := [110, 111, 110, 101]) rfl _).mono ?_
  rintro e w3 ⟨rfl, b⟩
  have B3 := Lib.hid (below2S B2.out b)
  replace P := Lib.hid (P.out.later b)
  replace Q := Lib.hid (Q.out.later b)
  clear b B2 p0 p1 p2 p3 p4 q0 q1 q2 q3 q4
  obtain ⟨p0, p1, p2, p3, p4⟩ := P.out
  obtain ⟨q0, q1, q2, q3, q4⟩ := Q.out
  simp only at p0 p1 p2 p3 p4 q0 q1 q2 q3 q4
  go_wp2_with fail
  refine (smay_bl false false a4 a3 true false false a3 a4 true (r := true) hn.out _).mono ?_
  rintro e w4 ⟨rfl, b⟩
  have B4 := Lib.hid (below2S B3.out b)
  replace P := Lib.hid (P.out.later b)
  replace Q := Lib.hid (Q.out.later b)
  clear b B3 p0 p1 p2 p3 p4 q0 q1 q2 q3 q4
  obtain ⟨p0, p1, p2, p3, p4⟩ := P.out
  obtain ⟨q0, q1, q2, q3, q4⟩ := Q.out
  simp only at p0 p1 p2 p3 p4 q0 q1 q2 q3 q4
  go_wp2_with fail
  refine (ssees_eq false false a3 a4 true false false a4 a3 true (r := false) rfl _).mono ?_
  rintro e w5 ⟨rfl, b⟩
  have B5 := Lib.hid (below2S B4.out b)
  replace P := Lib.hid (P.out.later b)
  replace Q := Lib.hid (Q.out.later b)
  clear b B4 p0 p1 p2 p3 p4 q0 q1 q2 q3 q4
  obtain ⟨p0, p1, p2, p3, p4⟩ := P.out
  obtain ⟨q0, q1, q2, q3, q4⟩ := Q.out
  simp only at p0 p1 p2 p3 p4 q0 q1 q2 q3 q4
  go_wp2_with fail
  refine (ssees_eq false false a4 a3 true false false a3 a4 true (r := false) rfl _).mono ?_
  rintro e w6 ⟨rfl, b⟩
  have B6 := Lib.hid (below2S B5.out b)
  replace P := Lib.hid (P.out.later b)
  replace Q := Lib.hid (Q.out.later b)
  clear b B5 p0 p1 p2 p3 p4 q0 q1 q2 q3 q4
  obtain ⟨p0, p1, p2, p3, p4⟩ := P.out
  obtain ⟨q0, q1, q2, q3, q4⟩ := Q.out
  simp only at p0 p1 p2 p3 p4 q0 q1 q2 q3 q4
  go_wp2_with fail
  refine (live7 _).mono ?_
  rintro e w7 ⟨rfl, b⟩
  have B7 := Lib.hid (below2S B6.out b)
  replace P := Lib.hid (P.out.later b)
  replace Q := Lib.hid (Q.out.later b)
  clear b B6 p0 p1 p2 p3 p4 q0 q1 q2 q3 q4
  go_wp2_with fail
  go_ret
  exact ⟨rfl, B7.out⟩

set_option maxHeartbeats 3200000 in
set_option maxRecDepth 100000 in
theorem sides_0100 {w : World} (a3 a4 : Bool) (hm : Hid (suMay ⟨false, true, a3, a4, false⟩ ⟨true, false, a4, a3, false⟩ = true)) (hn : Hid (suMay ⟨true, false, a4, a3, false⟩ ⟨false, true, a3, a4, false⟩ = true)) :
    Calls Try.prog 7 #[.agg #[.bool false, .bool true, .bool a3, .bool a4, .bool false], .agg #[.bool true, .bool false, .bool a4, .bool a3, .bool false]] w fun e w' => e = .returned (.bool true) ∧ Below w.heap.size w w' := by
  have T := twoAt w ⟨false, true, a3, a4, false⟩ ⟨true, false, a4, a3, false⟩ 23 23
  have P := Lib.hid T.1
  have Q := Lib.hid T.2
  have B0 : Hid (Below w.heap.size w ((w.alloc (.cells #[.bool false, .bool true, .bool a3, .bool a4, .bool false] 23)).alloc (.cells #[.bool true, .bool false, .bool a4, .bool a3, .bool false] 23))) := Lib.hid (((Below.refl _ _).alloc (Nat.le_refl _) _).alloc (by simp) _)
  clear T
  go_enter Try.func7, Try.ntmps7
  go_wp2_with fail
  refine (smay_bl false true a3 a4 false true false a4 a3 false (r := true) hm.out _).mono ?_
  rintro e w1 ⟨rfl, b⟩
  have B1 := Lib.hid (below2S B0.out b)
  replace P := Lib.hid (P.out.later b)
  replace Q := Lib.hid (Q.out.later b)
  clear b B0
  obtain ⟨p0, p1, p2, p3, p4⟩ := P.out
  obtain ⟨q0, q1, q2, q3, q4⟩ := Q.out
  simp only at p0 p1 p2 p3 p4 q0 q1 q2 q3 q4
  go_wp2_with fail
  refine (sname_eq false true a3 a4 false (r := [102, 114, 111, 109]) rfl _).mono ?_
  rintro e w2 ⟨rfl, b⟩
  have B2 := Lib.hid (below2S B1.out b)
  replace P := Lib.hid (P.out.later b)
  replace Q := Lib.hid (Q.out.later b)
  clear b B1 p0 p1 p2 p3 p4 q0 q1 q2 q3 q4
  obtain ⟨p0, p1, p2, p3, p4⟩ := P.out
  obtain ⟨q0, q1, q2, q3, q4⟩ := Q.out
  simp only at p0 p1 p2 p3 p4 q0 q1 q2 q3 q4
  go_wp2_with fail
  refine (sname_eq true false a4 a3 false (r := [116, 111]) rfl _).mono ?_
  rintro e w3 ⟨rfl, b⟩
  have B3 := Lib.hid (below2S B2.out b)
  replace P := Lib.hid (P.out.later b)
  replace Q := Lib.hid (Q.out.later b)
  clear b B2 p0 p1 p2 p3 p4 q0 q1 q2 q3 q4
  obtain ⟨p0, p1, p2, p3, p4⟩ := P.out
  obtain ⟨q0, q1, q2, q3, q4⟩ := Q.out
  simp only at p0 p1 p2 p3 p4 q0 q1 q2 q3 q4
  go_wp2_with fail
  refine (smay_bl true false a4 a3 false false true a3 a4 false (r := true) hn.out _).mono ?_
  rintro e w4 ⟨rfl, b⟩
  have B4 := Lib.hid (below2S B3.out b)
  replace P := Lib.hid (P.out.later b)
  replace Q := Lib.hid (Q.out.later b)
  clear b B3 p0 p1 p2 p3 p4 q0 q1 q2 q3 q4
  obtain ⟨p0, p1, p2, p3, p4⟩ := P.out
  obtain ⟨q0, q1, q2, q3, q4⟩ := Q.out
  simp only at p0 p1 p2 p3 p4 q0 q1 q2 q3 q4
  go_wp2_with fail
  refine (ssees_eq false true a3 a4 false true false a4 a3 false (r := false) rfl _).mono ?_
  rintro e w5 ⟨rfl, b⟩
  have B5 := Lib.hid (below2S B4.out b)
  replace P := Lib.hid (P.out.later b)
  replace Q := Lib.hid (Q.out.later b)
  clear b B4 p0 p1 p2 p3 p4 q0 q1 q2 q3 q4
  obtain ⟨p0, p1, p2, p3, p4⟩ := P.out
  obtain ⟨q0, q1, q2, q3, q4⟩ := Q.out
  simp only at p0 p1 p2 p3 p4 q0 q1 q2 q3 q4
  go_wp2_with fail
  refine (ssees_eq true false a4 a3 false false true a3 a4 false (r := true) rfl _).mono ?_
  rintro e w6 ⟨rfl, b⟩
  have B6 := Lib.hid (below2S B5.out b)
  replace P := Lib.hid (P.out.later b)
  replace Q := Lib.hid (Q.out.later b)
  clear b B5 p0 p1 p2 p3 p4 q0 q1 q2 q3 q4
  obtain ⟨p0, p1, p2, p3, p4⟩ := P.out
  obtain ⟨q0, q1, q2, q3, q4⟩ := Q.out
  simp only at p0 p1 p2 p3 p4 q0 q1 q2 q3 q4
  go_wp2_with fail
  refine (live7 _).mono ?_
  rintro e w7 ⟨rfl, b⟩
  have B7 := Lib.hid (below2S B6.out b)
  replace P := Lib.hid (P.out.later b)
  replace Q := Lib.hid (Q.out.later b)
  clear b B6 p0 p1 p2 p3 p4 q0 q1 q2 q3 q4
  go_wp2_with fail
  go_ret
  exact ⟨rfl, B7.out⟩

set_option maxHeartbeats 3200000 in
set_option maxRecDepth 100000 in
theorem sides_0101 {w : World} (a3 a4 : Bool) (hm : Hid (suMay ⟨false, true, a3, a4, false⟩ ⟨true, false, a4, a3, true⟩ = true)) (hn : Hid (suMay ⟨true, false, a4, a3, true⟩ ⟨false, true, a3, a4, false⟩ = true)) :
    Calls Try.prog 7 #[.agg #[.bool false, .bool true, .bool a3, .bool a4, .bool false], .agg #[.bool true, .bool false, .bool a4, .bool a3, .bool true]] w fun e w' => e = .returned (.bool true) ∧ Below w.heap.size w w' := by
  have T := twoAt w ⟨false, true, a3, a4, false⟩ ⟨true, false, a4, a3, true⟩ 23 23
  have P := Lib.hid T.1
  have Q := Lib.hid T.2
  have B0 : Hid (Below w.heap.size w ((w.alloc (.cells #[.bool false, .bool true, .bool a3, .bool a4, .bool false] 23)).alloc (.cells #[.bool true, .bool false, .bool a4, .bool a3, .bool true] 23))) := Lib.hid (((Below.refl _ _).alloc (Nat.le_refl _) _).alloc (by simp) _)
  clear T
  go_enter Try.func7, Try.ntmps7
  go_wp2_with fail
  refine (smay_bl false true a3 a4 false true false a4 a3 true (r := true) hm.out _).mono ?_
  rintro e w1 ⟨rfl, b⟩
  have B1 := Lib.hid (below2S B0.out b)
  replace P := Lib.hid (P.out.later b)
  replace Q := Lib.hid (Q.out.later b)
  clear b B0
  obtain ⟨p0, p1, p2, p3, p4⟩ := P.out
  obtain ⟨q0, q1, q2, q3, q4⟩ := Q.out
  simp only at p0 p1 p2 p3 p4 q0 q1 q2 q3 q4
  go_wp2_with fail
  refine (sname_eq false true a3 a4 false (r := [102, 114, 111, 109]) rfl _).mono ?_
  rintro e w2 ⟨rfl, b⟩
  have B2 := Lib.hid (below2S B1.out b)
  replace P := Lib.hid (P.out.later b)
  replace Q := Lib.hid (Q.out.later b)
  clear b B1 p0 p1 p2 p3 p4 q0 q1 q2 q3 q4
  obtain ⟨p0, p1, p2, p3, p4⟩ := P.out
  obtain ⟨q0, q1, q2, q3, q4⟩ := Q.out
  simp only at p0 p1 p2 p3 p4 q0 q1 q2 q3 q4
  go_wp2_with fail
  refine (sname_eq true false a4 a3 true (r := [116, 111]) rfl _).mono ?_
  rintro e w3 ⟨rfl, b⟩
  have B3 := Lib.hid (below2S B2.out b)
  replace P := Lib.hid (P.out.later b)
  replace Q := Lib.hid (Q.out.later b)
  clear b B2 p0 p1 p2 p3 p4 q0 q1 q2 q3 q4
  obtain ⟨p0, p1, p2, p3, p4⟩ := P.out
  obtain ⟨q0, q1, q2, q3, q4⟩ := Q.out
  simp only at p0 p1 p2 p3 p4 q0 q1 q2 q3 q4
  go_wp2_with fail
  refine (smay_bl true false a4 a3 true false true a3 a4 false (r := true) hn.out _).mono ?_
  rintro e w4 ⟨rfl, b⟩
  have B4 := Lib.hid (below2S B3.out b)
  replace P := Lib.hid (P.out.later b)
  replace Q := Lib.hid (Q.out.later b)
  clear b B3 p0 p1 p2 p3 p4 q0 q1 q2 q3 q4
  obtain ⟨p0, p1, p2, p3, p4⟩ := P.out
  obtain ⟨q0, q1, q2, q3, q4⟩ := Q.out
  simp only at p0 p1 p2 p3 p4 q0 q1 q2 q3 q4
  go_wp2_with fail
  refine (ssees_eq false true a3 a4 false true false a4 a3 true (r := false) rfl _).mono ?_
  rintro e w5 ⟨rfl, b⟩
  have B5 := Lib.hid (below2S B4.out b)
  replace P := Lib.hid (P.out.later b)
  replace Q := Lib.hid (Q.out.later b)
  clear b B4 p0 p1 p2 p3 p4 q0 q1 q2 q3 q4
  obtain ⟨p0, p1, p2, p3, p4⟩ := P.out
  obtain ⟨q0, q1, q2, q3, q4⟩ := Q.out
  simp only at p0 p1 p2 p3 p4 q0 q1 q2 q3 q4
  go_wp2_with fail
  refine (ssees_eq true false a4 a3 true false true a3 a4 false (r := false) rfl _).mono ?_
  rintro e w6 ⟨rfl, b⟩
  have B6 := Lib.hid (below2S B5.out b)
  replace P := Lib.hid (P.out.later b)
  replace Q := Lib.hid (Q.out.later b)
  clear b B5 p0 p1 p2 p3 p4 q0 q1 q2 q3 q4
  obtain ⟨p0, p1, p2, p3, p4⟩ := P.out
  obtain ⟨q0, q1, q2, q3, q4⟩ := Q.out
  simp only at p0 p1 p2 p3 p4 q0 q1 q2 q3 q4
  go_wp2_with fail
  refine (live7 _).mono ?_
  rintro e w7 ⟨rfl, b⟩
  have B7 := Lib.hid (below2S B6.out b)
  replace P := Lib.hid (P.out.later b)
  replace Q := Lib.hid (Q.out.later b)
  clear b B6 p0 p1 p2 p3 p4 q0 q1 q2 q3 q4
  go_wp2_with fail
  go_ret
  exact ⟨rfl, B7.out⟩

set_option maxHeartbeats 3200000 in
set_option maxRecDepth 100000 in
theorem sides_0110 {w : World} (a3 a4 : Bool) (hm : Hid (suMay ⟨false, true, a3, a4, true⟩ ⟨true, false, a4, a3, false⟩ = true)) (hn : Hid (suMay ⟨true, false, a4, a3, false⟩ ⟨false, true, a3, a4, true⟩ = true)) :
    Calls Try.prog 7 #[.agg #[.bool false, .bool true, .bool a3, .bool a4, .bool true], .agg #[.bool true, .bool false, .bool a4, .bool a3, .bool false]] w fun e w' => e = .returned (.bool true) ∧ Below w.heap.size w w' := by
  have T := twoAt w ⟨false, true, a3, a4, true⟩ ⟨true, false, a4, a3, false⟩ 23 23
  have P := Lib.hid T.1
  have Q := Lib.hid T.2
  have B0 : Hid (Below w.heap.size w ((w.alloc (.cells #[.bool false, .bool true, .bool a3, .bool a4, .bool true] 23)).alloc (.cells #[.bool true, .bool false, .bool a4, .bool a3, .bool false] 23))) := Lib.hid (((Below.refl _ _).alloc (Nat.le_refl _) _).alloc (by simp) _)
  clear T
  go_enter Try.func7, Try.ntmps7
  go_wp2_with fail
  refine (smay_bl false true a3 a4 true true false a4 a3 false (r := true) hm.out _).mono ?_
  rintro e w1 ⟨rfl, b⟩
  have B1 := Lib.hid (below2S B0.out b)
  replace P := Lib.hid (P.out.later b)
  replace Q := Lib.hid (Q.out.later b)
  clear b B0
  obtain ⟨p0, p1, p2, p3, p4⟩ := P.out
  obtain ⟨q0, q1, q2, q3, q4⟩ := Q.out
  simp only at p0 p1 p2 p3 p4 q0 q1 q2 q3 q4
  go_wp2_with fail
  refine (sname_eq false true a3 a4 true (r := [102, 114, 111, 109]) rfl _).mono ?_
  rintro e w2 ⟨rfl, b⟩
  have B2 := Lib.hid (below2S B1.out b)
  replace P := Lib.hid (P.out.later b)
  replace Q := Lib.hid (Q.out.later b)
  clear b B1 p0 p1 p2 p3 p4 q0 q1 q2 q3 q4
  obtain ⟨p0, p1, p2, p3, p4⟩ := P.out
  obtain ⟨q0, q1, q2, q3, q4⟩ := Q.out
  simp only at p0 p1 p2 p3 p4 q0 q1 q2 q3 q4
  go_wp2_with fail
  refine (sname_eq true false a4 a3 false (r := [116, 111]) rfl _).mono ?_
  rintro e w3 ⟨rfl, b⟩
  have B3 := Lib.hid (below2S B2.out b)
  replace P := Lib.hid (P.out.later b)
  replace Q := Lib.hid (Q.out.later b)
  clear b B2 p0 p1 p2 p3 p4 q0 q1 q2 q3 q4
  obtain ⟨p0, p1, p2, p3, p4⟩ := P.out
  obtain ⟨q0, q1, q2, q3, q4⟩ := Q.out
  simp only at p0 p1 p2 p3 p4 q0 q1 q2 q3 q4
  go_wp2_with fail
  refine (smay_bl true false a4 a3 false false true a3 a4 true (r := true) hn.out _).mono ?_
  rintro e w4 ⟨rfl, b⟩
  have B4 := Lib.hid (below2S B3.out b)
  replace P := Lib.hid (P.out.later b)
  replace Q := Lib.hid (Q.out.later b)
  clear b B3 p0 p1 p2 p3 p4 q0 q1 q2 q3 q4
  obtain ⟨p0, p1, p2, p3, p4⟩ := P.out
  obtain ⟨q0, q1, q2, q3, q4⟩ := Q.out
  simp only at p0 p1 p2 p3 p4 q0 q1 q2 q3 q4
  go_wp2_with fail
  refine (ssees_eq false true a3 a4 true true false a4 a3 false (r := false) rfl _).mono ?_
  rintro e w5 ⟨rfl, b⟩
  have B5 := Lib.hid (below2S B4.out b)
  replace P := Lib.hid (P.out.later b)
  replace Q := Lib.hid (Q.out.later b)
  clear b B4 p0 p1 p2 p3 p4 q0 q1 q2 q3 q4
  obtain ⟨p0, p1, p2, p3, p4⟩ := P.out
  obtain ⟨q0, q1, q2, q3, q4⟩ := Q.out
  simp only at p0 p1 p2 p3 p4 q0 q1 q2 q3 q4
  go_wp2_with fail
  refine (ssees_eq true false a4 a3 false false true a3 a4 true (r := false) rfl _).mono ?_
  rintro e w6 ⟨rfl, b⟩
  have B6 := Lib.hid (below2S B5.out b)
  replace P := Lib.hid (P.out.later b)
  replace Q := Lib.hid (Q.out.later b)
  clear b B5 p0 p1 p2 p3 p4 q0 q1 q2 q3 q4
  obtain ⟨p0, p1, p2, p3, p4⟩ := P.out
  obtain ⟨q0, q1, q2, q3, q4⟩ := Q.out
  simp only at p0 p1 p2 p3 p4 q0 q1 q2 q3 q4
  go_wp2_with fail
  refine (live7 _).mono ?_
  rintro e w7 ⟨rfl, b⟩
  have B7 := Lib.hid (below2S B6.out b)
  replace P := Lib.hid (P.out.later b)
  replace Q := Lib.hid (Q.out.later b)
  clear b B6 p0 p1 p2 p3 p4 q0 q1 q2 q3 q4
  go_wp2_with fail
  go_ret
  exact ⟨rfl, B7.out⟩

set_option maxHeartbeats 3200000 in
set_option maxRecDepth 100000 in
theorem sides_0111 {w : World} (a3 a4 : Bool) (hm : Hid (suMay ⟨false, true, a3, a4, true⟩ ⟨true, false, a4, a3, true⟩ = true)) (hn : Hid (suMay ⟨true, false, a4, a3, true⟩ ⟨false, true, a3, a4, true⟩ = true)) :
    Calls Try.prog 7 #[.agg #[.bool false, .bool true, .bool a3, .bool a4, .bool true], .agg #[.bool true, .bool false, .bool a4, .bool a3, .bool true]] w fun e w' => e = .returned (.bool true) ∧ Below w.heap.size w w' := by
  have T := twoAt w ⟨false, true, a3, a4, true⟩ ⟨true, false, a4, a3, true⟩ 23 23
  have P := Lib.hid T.1
  have Q := Lib.hid T.2
  have B0 : Hid (Below w.heap.size w ((w.alloc (.cells #[.bool false, .bool true, .bool a3, .bool a4, .bool true] 23)).alloc (.cells #[.bool true, .bool false, .bool a4, .bool a3, .bool true] 23))) := Lib.hid (((Below.refl _ _).alloc (Nat.le_refl _) _).alloc (by simp) _)
  clear T
  go_enter Try.func7, Try.ntmps7
  go_wp2_with fail
  refine (smay_bl false true a3 a4 true true false a4 a3 true (r := true) hm.out _).mono ?_
  rintro e w1 ⟨rfl, b⟩
  have B1 := Lib.hid (below2S B0.out b)
  replace P := Lib.hid (P.out.later b)
  replace Q := Lib.hid (Q.out.later b)
  clear b B0
  obtain ⟨p0, p1, p2, p3, p4⟩ := P.out
  obtain ⟨q0, q1, q2, q3, q4⟩ := Q.out
  simp only at p0 p1 p2 p3 p4 q0 q1 q2 q3 q4
  go_wp2_with fail
  refine (sname_eq false true a3 a4 true (r := [102, 114, 111, 109]) rfl _).mono ?_
  rintro e w2 ⟨rfl, b⟩
  have B2 := Lib.hid (below2S B1.out b)
  replace P := Lib.hid (P.out.later b)
  replace Q := Lib.hid (Q.out.later b)
  clear b B1 p0 p1 p2 p3 p4 q0 q1 q2 q3 q4
  obtain ⟨p0, p1, p2, p3, p4⟩ := P.out
  obtain ⟨q0, q1, q2, q3, q4⟩ := Q.out
  simp only at p0 p1 p2 p3 p4 q0 q1 q2 q3 q4
  go_wp2_with fail
  refine (sname_eq true false a4 a3 true (r := [116, 111]) rfl _).mono ?_
  rintro e w3 ⟨rfl, b⟩
  have B3 := Lib.hid (below2S B2.out b)
  replace P := Lib.hid (P.out.later b)
  replace Q := Lib.hid (Q.out.later b)
  clear b B2 p0 p1 p2 p3 p4 q0 q1 q2 q3 q4
  obtain ⟨p0, p1, p2, p3, p4⟩ := P.out
  obtain ⟨q0, q1, q2, q3, q4⟩ := Q.out
  simp only at p0 p1 p2 p3 p4 q0 q1 q2 q3 q4
  go_wp2_with fail
  refine (smay_bl true false a4 a3 true false true a3 a4 true (r := true) hn.out _).mono ?_
  rintro e w4 ⟨rfl, b⟩
  have B4 := Lib.hid (below2S B3.out b)
  replace P := Lib.hid (P.out.later b)
  replace Q := Lib.hid (Q.out.later b)
  clear b B3 p0 p1 p2 p3 p4 q0 q1 q2 q3 q4
  obtain ⟨p0, p1, p2, p3, p4⟩ := P.out
  obtain ⟨q0, q1, q2, q3, q4⟩ := Q.out
  simp only at p0 p1 p2 p3 p4 q0 q1 q2 q3 q4
  go_wp2_with fail
  refine (ssees_eq false true a3 a4 true true false a4 a3 true (r := false) rfl _).mono ?_
  rintro e w5 ⟨rfl, b⟩
  have B5 := Lib.hid (below2S B4.out b)
  replace P := Lib.hid (P.out.later b)
  replace Q := Lib.hid (Q.out.later b)
  clear b B4 p0 p1 p2 p3 p4 q0 q1 q2 q3 q4
  obtain ⟨p0, p1, p2, p3, p4⟩ := P.out
  obtain ⟨q0, q1, q2, q3, q4⟩ := Q.out
  simp only at p0 p1 p2 p3 p4 q0 q1 q2 q3 q4
  go_wp2_with fail
  refine (ssees_eq true false a4 a3 true false true a3 a4 true (r := false) rfl _).mono ?_
  rintro e w6 ⟨rfl, b⟩
  have B6 := Lib.hid (below2S B5.out b)
  replace P := Lib.hid (P.out.later b)
  replace Q := Lib.hid (Q.out.later b)
  clear b B5 p0 p1 p2 p3 p4 q0 q1 q2 q3 q4
  obtain ⟨p0, p1, p2, p3, p4⟩ := P.out
  obtain ⟨q0, q1, q2, q3, q4⟩ := Q.out
  simp only at p0 p1 p2 p3 p4 q0 q1 q2 q3 q4
  go_wp2_with fail
  refine (live7 _).mono ?_
  rintro e w7 ⟨rfl, b⟩
  have B7 := Lib.hid (below2S B6.out b)
  replace P := Lib.hid (P.out.later b)
  replace Q := Lib.hid (Q.out.later b)
  clear b B6 p0 p1 p2 p3 p4 q0 q1 q2 q3 q4
  go_wp2_with fail
  go_ret
  exact ⟨rfl, B7.out⟩

set_option maxHeartbeats 3200000 in
set_option maxRecDepth 100000 in
theorem sides_1000 {w : World} (a3 a4 : Bool) (hm : Hid (suMay ⟨true, false, a3, a4, false⟩ ⟨false, true, a4, a3, false⟩ = true)) (hn : Hid (suMay ⟨false, true, a4, a3, false⟩ ⟨true, false, a3, a4, false⟩ = true)) :
    Calls Try.prog 7 #[.agg #[.bool true, .bool false, .bool a3, .bool a4, .bool false], .agg #[.bool false, .bool true, .bool a4, .bool a3, .bool false]] w fun e w' => e = .returned (.bool true) ∧ Below w.heap.size w w' := by
  have T := twoAt w ⟨true, false, a3, a4, false⟩ ⟨false, true, a4, a3, false⟩ 23 23
  have P := Lib.hid T.1
  have Q := Lib.hid T.2
  have B0 : Hid (Below w.heap.size w ((w.alloc (.cells #[.bool true, .bool false, .bool a3, .bool a4, .bool false] 23)).alloc (.cells #[.bool false, .bool true, .bool a4, .bool a3, .bool false] 23))) := Lib.hid (((Below.refl _ _).alloc (Nat.le_refl _) _).alloc (by simp) _)
  clear T
  go_enter Try.func7, Try.ntmps7
  go_wp2_with fail
  refine (smay_bl true false a3 a4 false false true a4 a3 false (r := true) hm.out _).mono ?_
  rintro e w1 ⟨rfl, b⟩
  have B1 := Lib.hid (below2S B0.out b)
  replace P := Lib.hid (P.out.later b)
  replace Q := Lib.hid (Q.out.later b)
  clear b B0
  obtain ⟨p0, p1, p2, p3, p4⟩ := P.out
  obtain ⟨q0, q1, q2, q3, q4⟩ := Q.out
  simp only at p0 p1 p2 p3 p4 q0 q1 q2 q3 q4
  go_wp2_with fail
  refine (sname_eq true false a3 a4 false (r := [116, 111]) rfl _).mono ?_
  rintro e w2 ⟨rfl, b⟩
  have B2 := Lib.hid (below2S B1.out b)
  replace P := Lib.hid (P.out.later b)
  replace Q := Lib.hid (Q.out.later b)
  clear b B1 p0 p1 p2 p3 p4 q0 q1 q2 q3 q4
  obtain ⟨p0, p1, p2, p3, p4⟩ := P.out
  obtain ⟨q0, q1, q2, q3, q4⟩ := Q.out
  simp only at p0 p1 p2 p3 p4 q0 q1 q2 q3 q4
  go_wp2_with fail
  refine (sname_eq false true a4 a3 false (r := [102, 114, 111, 109]) rfl _).mono ?_
  rintro e w3 ⟨rfl, b⟩
  have B3 := Lib.hid (below2S B2.out b)
  replace P := Lib.hid (P.out.later b)
  replace Q := Lib.hid (Q.out.later b)
  clear b B2 p0 p1 p2 p3 p4 q0 q1 q2 q3 q4
  obtain ⟨p0, p1, p2, p3, p4⟩ := P.out
  obtain ⟨q0, q1, q2, q3, q4⟩ := Q.out
  simp only at p0 p1 p2 p3 p4 q0 q1 q2 q3 q4
  go_wp2_with fail
  refine (smay_bl false true a4 a3 false true false a3 a4 false (r := true) hn.out _).mono ?_
  rintro e w4 ⟨rfl, b⟩
  have B4 := Lib.hid (below2S B3.out b)
  replace P := Lib.hid (P.out.later b)
  replace Q := Lib.hid (Q.out.later b)
  clear b B3 p0 p1 p2 p3 p4 q0 q1 q2 q3 q4
  obtain ⟨p0, p1, p2, p3, p4⟩ := P.out
  obtain ⟨q0, q1, q2, q3, q4⟩ := Q.out
  simp only at p0 p1 p2 p3 p4 q0 q1 q2 q3 q4
  go_wp2_with fail
  refine (ssees_eq true false a3 a4 false false true a4 a3 false (r := true) rfl _).mono ?_
  rintro e w5 ⟨rfl, b⟩
  have B5 := Lib.hid (below2S B4.out b)
  replace P := Lib.hid (P.out.later b)
  replace Q := Lib.hid (Q.out.later b)
  clear b B4 p0 p1 p2 p3 p4 q0 q1 q2 q3 q4
  obtain ⟨p0, p1, p2, p3, p4⟩ := P.out
  obtain ⟨q0, q1, q2, q3, q4⟩ := Q.out
  simp only at p0 p1 p2 p3 p4 q0 q1 q2 q3 q4
  go_wp2_with fail
  refine (ssees_eq false true a4 a3 false true false a3 a4 false (r := false) rfl _).mono ?_
  rintro e w6 ⟨rfl, b⟩
  have B6 := Lib.hid (below2S B5.out b)
  replace P := Lib.hid (P.out.later b)
  replace Q := Lib.hid (Q.out.later b)
  clear b B5 p0 p1 p2 p3 p4 q0 q1 q2 q3 q4
  obtain ⟨p0, p1, p2, p3, p4⟩ := P.out
  obtain ⟨q0, q1, q2, q3, q4⟩ := Q.out
  simp only at p0 p1 p2 p3 p4 q0 q1 q2 q3 q4
  go_wp2_with fail
  refine (live7 _).mono ?_
  rintro e w7 ⟨rfl, b⟩
  have B7 := Lib.hid (below2S B6.out b)
  replace P := Lib.hid (P.out.later b)
  replace Q := Lib.hid (Q.out.later b)
  clear b B6 p0 p1 p2 p3 p4 q0 q1 q2 q3 q4
  go_wp2_with fail
  go_ret
  exact ⟨rfl, B7.out⟩

set_option maxHeartbeats 3200000 in
set_option maxRecDepth 100000 in
theorem sides_1001 {w : World} (a3 a4 : Bool) (hm : Hid (suMay ⟨true, false, a3, a4, false⟩ ⟨false, true, a4, a3, true⟩ = true)) (hn : Hid (suMay ⟨false, true, a4, a3, true⟩ ⟨true, false, a3, a4, false⟩ = true)) :
    Calls Try.prog 7 #[.agg #[.bool true, .bool false, .bool a3, .bool a4, .bool false], .agg #[.bool false, .bool true, .bool a4, .bool a3, .bool true]] w fun e w' => e = .returned (.bool true) ∧ Below w.heap.size w w' := by
  have T := twoAt w ⟨true, false, a3, a4, false⟩ ⟨false, true, a4, a3, true⟩ 23 23
  have P := Lib.hid T.1
  have Q := Lib.hid T.2
  have B0 : Hid (Below w.heap.size w ((w.alloc (.cells #[.bool true, .bool false, .bool a3, .bool a4, .bool false] 23)).alloc (.cells #[.bool false, .bool true, .bool a4, .bool a3, .bool true] 23))) := Lib.hid (((Below.refl _ _).alloc (Nat.le_refl _) _).alloc (by simp) _)
  clear T
  go_enter Try.func7, Try.ntmps7
  go_wp2_with fail
  refine (smay_bl true false a3 a4 false false true a4 a3 true (r := true) hm.out _).mono ?_
  rintro e w1 ⟨rfl, b⟩
  have B1 := Lib.hid (below2S B0.out b)
  replace P := Lib.hid (P.out.later b)
  replace Q := Lib.hid (Q.out.later b)
  clear b B0
  obtain ⟨p0, p1, p2, p3, p4⟩ := P.out
  obtain ⟨q0, q1, q2, q3, q4⟩ := Q.out
  simp only at p0 p1 p2 p3 p4 q0 q1 q2 q3 q4
  go_wp2_with fail
  refine (sname_eq true false a3 a4 false (r := [116, 111]) rfl _).mono ?_
  rintro e w2 ⟨rfl, b⟩
  have B2 := Lib.hid (below2S B1.out b)
  replace P := Lib.hid (P.out.later b)
  replace Q := Lib.hid (Q.out.later b)
  clear b B1 p0 p1 p2 p3 p4 q0 q1 q2 q3 q4
  obtain ⟨p0, p1, p2, p3, p4⟩ := P.out
  obtain ⟨q0, q1, q2, q3, q4⟩ := Q.out
  simp only at p0 p1 p2 p3 p4 q0 q1 q2 q3 q4
  go_wp2_with fail
  refine (sname_eq false true a4 a3 true (r := [102, 114, 111, 109]) rfl _).mono ?_
  rintro e w3 ⟨rfl, b⟩
  have B3 := Lib.hid (below2S B2.out b)
  replace P := Lib.hid (P.out.later b)
  replace Q := Lib.hid (Q.out.later b)
  clear b B2 p0 p1 p2 p3 p4 q0 q1 q2 q3 q4
  obtain ⟨p0, p1, p2, p3, p4⟩ := P.out
  obtain ⟨q0, q1, q2, q3, q4⟩ := Q.out
  simp only at p0 p1 p2 p3 p4 q0 q1 q2 q3 q4
  go_wp2_with fail
  refine (smay_bl false true a4 a3 true true false a3 a4 false (r := true) hn.out _).mono ?_
  rintro e w4 ⟨rfl, b⟩
  have B4 := Lib.hid (below2S B3.out b)
  replace P := Lib.hid (P.out.later b)
  replace Q := Lib.hid (Q.out.later b)
  clear b B3 p0 p1 p2 p3 p4 q0 q1 q2 q3 q4
  obtain ⟨p0, p1, p2, p3, p4⟩ := P.out
  obtain ⟨q0, q1, q2, q3, q4⟩ := Q.out
  simp only at p0 p1 p2 p3 p4 q0 q1 q2 q3 q4
  go_wp2_with fail
  refine (ssees_eq true false a3 a4 false false true a4 a3 true (r := false) rfl _).mono ?_
  rintro e w5 ⟨rfl, b⟩
  have B5 := Lib.hid (below2S B4.out b)
  replace P := Lib.hid (P.out.later b)
  replace Q := Lib.hid (Q.out.later b)
  clear b B4 p0 p1 p2 p3 p4 q0 q1 q2 q3 q4
  obtain ⟨p0, p1, p2, p3, p4⟩ := P.out
  obtain ⟨q0, q1, q2, q3, q4⟩ := Q.out
  simp only at p0 p1 p2 p3 p4 q0 q1 q2 q3 q4
  go_wp2_with fail
  refine (ssees_eq false true a4 a3 true true false a3 a4 false (r := false) rfl _).mono ?_
  rintro e w6 ⟨rfl, b⟩
  have B6 := Lib.hid (below2S B5.out b)
  replace P := Lib.hid (P.out.later b)
  replace Q := Lib.hid (Q.out.later b)
  clear b B5 p0 p1 p2 p3 p4 q0 q1 q2 q3 q4
  obtain ⟨p0, p1, p2, p3, p4⟩ := P.out
  obtain ⟨q0, q1, q2, q3, q4⟩ := Q.out
  simp only at p0 p1 p2 p3 p4 q0 q1 q2 q3 q4
  go_wp2_with fail
  refine (live7 _).mono ?_
  rintro e w7 ⟨rfl, b⟩
  have B7 := Lib.hid (below2S B6.out b)
  replace P := Lib.hid (P.out.later b)
  replace Q := Lib.hid (Q.out.later b)
  clear b B6 p0 p1 p2 p3 p4 q0 q1 q2 q3 q4
  go_wp2_with fail
  go_ret
  exact ⟨rfl, B7.out⟩

set_option maxHeartbeats 3200000 in
set_option maxRecDepth 100000 in
theorem sides_1010 {w : World} (a3 a4 : Bool) (hm : Hid (suMay ⟨true, false, a3, a4, true⟩ ⟨false, true, a4, a3, false⟩ = true)) (hn : Hid (suMay ⟨false, true, a4, a3, false⟩ ⟨true, false, a3, a4, true⟩ = true)) :
    Calls Try.prog 7 #[.agg #[.bool true, .bool false, .bool a3, .bool a4, .bool true], .agg #[.bool false, .bool true, .bool a4, .bool a3, .bool false]] w fun e w' => e = .returned (.bool true) ∧ Below w.heap.size w w' := by
  have T := twoAt w ⟨true, false, a3, a4, true⟩ ⟨false, true, a4, a3, false⟩ 23 23
  have P := Lib.hid T.1
  have Q := Lib.hid T.2
  have B0 : Hid (Below w.heap.size w ((w.alloc (.cells #[.bool true, .bool false, .bool a3, .bool a4, .bool true] 23)).alloc (.cells #[.bool false, .bool true, .bool a4, .bool a3, .bool false] 23))) := Lib.hid (((Below.refl _ _).alloc (Nat.le_refl _) _).alloc (by simp) _)
  clear T
  go_enter Try.func7, Try.ntmps7
  go_wp2_with fail
  refine (smay_bl true false a3 a4 true false true a4 a3 false (r := true) hm.out _).mono ?_
  rintro e w1 ⟨rfl, b⟩
  have B1 := Lib.hid (below2S B0.out b)
  replace P := Lib.hid (P.out.later b)
  replace Q := Lib.hid (Q.out.later b)
  clear b B0
  obtain ⟨p0, p1, p2, p3, p4⟩ := P.out
  obtain ⟨q0, q1, q2, q3, q4⟩ := Q.out
  simp only at p0 p1 p2 p3 p4 q0 q1 q2 q3 q4
  go_wp2_with fail
  refine (sname_eq true false a3 a4 true (r := [116, 111]) rfl _).mono ?_
  rintro e w2 ⟨rfl, b⟩
  have B2 := Lib.hid (below2S B1.out b)
  replace P := Lib.hid (P.out.later b)
  replace Q := Lib.hid (Q.out.later b)
  clear b B1 p0 p1 p2 p3 p4 q0 q1 q2 q3 q4
  obtain ⟨p0, p1, p2, p3, p4⟩ := P.out
  obtain ⟨q0, q1, q2, q3, q4⟩ := Q.out
  simp only at p0 p1 p2 p3 p4 q0 q1 q2 q3 q4
  go_wp2_with fail
  refine (sname_eq false true a4 a3 false (r := [102, 114, 111, 109]) rfl _).mono ?_
  rintro e w3 ⟨rfl, b⟩
  have B3 := Lib.hid (below2S B2.out b)
  replace P := Lib.hid (P.out.later b)
  replace Q := Lib.hid (Q.out.later b)
  clear b B2 p0 p1 p2 p3 p4 q0 q1 q2 q3 q4
  obtain ⟨p0, p1, p2, p3, p4⟩ := P.out
  obtain ⟨q0, q1, q2, q3, q4⟩ := Q.out
  simp only at p0 p1 p2 p3 p4 q0 q1 q2 q3 q4
  go_wp2_with fail
  refine (smay_bl false true a4 a3 false true false a3 a4 true (r := true) hn.out _).mono ?_
  rintro e w4 ⟨rfl, b⟩
  have B4 := Lib.hid (below2S B3.out b)
  replace P := Lib.hid (P.out.later b)
  replace Q := Lib.hid (Q.out.later b)
  clear b B3 p0 p1 p2 p3 p4 q0 q1 q2 q3 q4
  obtain ⟨p0, p1, p2, p3, p4⟩ := P.out
  obtain ⟨q0, q1, q2, q3, q4⟩ := Q.out
  simp only at p0 p1 p2 p3 p4 q0 q1 q2 q3 q4
  go_wp2_with fail
  refine (ssees_eq true false a3 a4 true false true a4 a3 false (r := false) rfl _).mono ?_
  rintro e w5 ⟨rfl, b⟩
  have B5 := Lib.hid (below2S B4.out b)
  replace P := Lib.hid (P.out.later b)
  replace Q := Lib.hid (Q.out.later b)
  clear b B4 p0 p1 p2 p3 p4 q0 q1 q2 q3 q4
  obtain ⟨p0, p1, p2, p3, p4⟩ := P.out
  obtain ⟨q0, q1, q2, q3, q4⟩ := Q.out
  simp only at p0 p1 p2 p3 p4 q0 q1 q2 q3 q4
  go_wp2_with fail
  refine (ssees_eq false true a4 a3 false true false a3 a4 true (r := false) rfl _).mono ?_
  rintro e w6 ⟨rfl, b⟩
  have B6 := Lib.hid (below2S B5.out b)
  replace P := Lib.hid (P.out.later b)
  replace Q := Lib.hid (Q.out.later b)
  clear b B5 p0 p1 p2 p3 p4 q0 q1 q2 q3 q4
  obtain ⟨p0, p1, p2, p3, p4⟩ := P.out
  obtain ⟨q0, q1, q2, q3, q4⟩ := Q.out
  simp only at p0 p1 p2 p3 p4 q0 q1 q2 q3 q4
  go_wp2_with fail
  refine (live7 _).mono ?_
  rintro e w7 ⟨rfl, b⟩
  have B7 := Lib.hid (below2S B6.out b)
  replace P := Lib.hid (P.out.later b)
  replace Q := Lib.hid (Q.out.later b)
  clear b B6 p0 p1 p2 p3 p4 q0 q1 q2 q3 q4
  go_wp2_with fail
  go_ret
  exact ⟨rfl, B7.out⟩

set_option maxHeartbeats 3200000 in
set_option maxRecDepth 100000 in
theorem sides_1011 {w : World} (a3 a4 : Bool) (hm : Hid (suMay ⟨true, false, a3, a4, true⟩ ⟨false, true, a4, a3, true⟩ = true)) (hn : Hid (suMay ⟨false, true, a4, a3, true⟩ ⟨true, false, a3, a4, true⟩ = true)) :
    Calls Try.prog 7 #[.agg #[.bool true, .bool false, .bool a3, .bool a4, .bool true], .agg #[.bool false, .bool true, .bool a4, .bool a3, .bool true]] w fun e w' => e = .returned (.bool true) ∧ Below w.heap.size w w' := by
  have T := twoAt w ⟨true, false, a3, a4, true⟩ ⟨false, true, a4, a3, true⟩ 23 23
  have P := Lib.hid T.1
  have Q := Lib.hid T.2
  have B0 : Hid (Below w.heap.size w ((w.alloc (.cells #[.bool true, .bool false, .bool a3, .bool a4, .bool true] 23)).alloc (.cells #[.bool false, .bool true, .bool a4, .bool a3, .bool true] 23))) := Lib.hid (((Below.refl _ _).alloc (Nat.le_refl _) _).alloc (by simp) _)
  clear T
  go_enter Try.func7, Try.ntmps7
  go_wp2_with fail
  refine (smay_bl true false a3 a4 true false true a4 a3 true (r := true) hm.out _).mono ?_
  rintro e w1 ⟨rfl, b⟩
  have B1 := Lib.hid (below2S B0.out b)
  replace P := Lib.hid (P.out.later b)
  replace Q := Lib.hid (Q.out.later b)
  clear b B0
  obtain ⟨p0, p1, p2, p3, p4⟩ := P.out
  obtain ⟨q0, q1, q2, q3, q4⟩ := Q.out
  simp only at p0 p1 p2 p3 p4 q0 q1 q2 q3 q4
  go_wp2_with fail
  refine (sname_eq true false a3 a4 true (r := [116, 111]) rfl _).mono ?_
  rintro e w2 ⟨rfl, b⟩
  have B2 := Lib.hid (below2S B1.out b)
  replace P := Lib.hid (P.out.later b)
  replace Q := Lib.hid (Q.out.later b)
  clear b B1 p0 p1 p2 p3 p4 q0 q1 q2 q3 q4
  obtain ⟨p0, p1, p2, p3, p4⟩ := P.out
  obtain ⟨q0, q1, q2, q3, q4⟩ := Q.out
  simp only at p0 p1 p2 p3 p4 q0 q1 q2 q3 q4
  go_wp2_with fail
  refine (sname_eq false true a4 a3 true (r := [102, 114, 111, 109]) rfl _).mono ?_
  rintro e w3 ⟨rfl, b⟩
  have B3 := Lib.hid (below2S B2.out b)
  replace P := Lib.hid (P.out.later b)
  replace Q := Lib.hid (Q.out.later b)
  clear b B2 p0 p1 p2 p3 p4 q0 q1 q2 q3 q4
  obtain ⟨p0, p1, p2, p3, p4⟩ := P.out
  obtain ⟨q0, q1, q2, q3, q4⟩ := Q.out
  simp only at p0 p1 p2 p3 p4 q0 q1 q2 q3 q4
  go_wp2_with fail
  refine (smay_bl false true a4 a3 true true false a3 a4 true (r := true) hn.out _).mono ?_
  rintro e w4 ⟨rfl, b⟩
  have B4 := Lib.hid (below2S B3.out b)
  replace P := Lib.hid (P.out.later b)
  replace Q := Lib.hid (Q.out.later b)
  clear b B3 p0 p1 p2 p3 p4 q0 q1 q2 q3 q4
  obtain ⟨p0, p1, p2, p3, p4⟩ := P.out
  obtain ⟨q0, q1, q2, q3, q4⟩ := Q.out
  simp only at p0 p1 p2 p3 p4 q0 q1 q2 q3 q4
  go_wp2_with fail
  refine (ssees_eq true false a3 a4 true false true a4 a3 true (r := false) rfl _).mono ?_
  rintro e w5 ⟨rfl, b⟩
  have B5 := Lib.hid (below2S B4.out b)
  replace P := Lib.hid (P.out.later b)
  replace Q := Lib.hid (Q.out.later b)
  clear b B4 p0 p1 p2 p3 p4 q0 q1 q2 q3 q4
  obtain ⟨p0, p1, p2, p3, p4⟩ := P.out
  obtain ⟨q0, q1, q2, q3, q4⟩ := Q.out
  simp only at p0 p1 p2 p3 p4 q0 q1 q2 q3 q4
  go_wp2_with fail
  refine (ssees_eq false true a4 a3 true true false a3 a4 true (r := false) rfl _).mono ?_
  rintro e w6 ⟨rfl, b⟩
  have B6 := Lib.hid (below2S B5.out b)
  replace P := Lib.hid (P.out.later b)
  replace Q := Lib.hid (Q.out.later b)
  clear b B5 p0 p1 p2 p3 p4 q0 q1 q2 q3 q4
  obtain ⟨p0, p1, p2, p3, p4⟩ := P.out
  obtain ⟨q0, q1, q2, q3, q4⟩ := Q.out
  simp only at p0 p1 p2 p3 p4 q0 q1 q2 q3 q4
  go_wp2_with fail
  refine (live7 _).mono ?_
  rintro e w7 ⟨rfl, b⟩
  have B7 := Lib.hid (below2S B6.out b)
  replace P := Lib.hid (P.out.later b)
  replace Q := Lib.hid (Q.out.later b)
  clear b B6 p0 p1 p2 p3 p4 q0 q1 q2 q3 q4
  go_wp2_with fail
  go_ret
  exact ⟨rfl, B7.out⟩

set_option maxHeartbeats 3200000 in
set_option maxRecDepth 100000 in
theorem sides_1100 {w : World} (a3 a4 : Bool) (hm : Hid (suMay ⟨true, true, a3, a4, false⟩ ⟨true, true, a4, a3, false⟩ = true)) (hn : Hid (suMay ⟨true, true, a4, a3, false⟩ ⟨true, true, a3, a4, false⟩ = true)) :
    Calls Try.prog 7 #[.agg #[.bool true, .bool true, .bool a3, .bool a4, .bool false], .agg #[.bool true, .bool true, .bool a4, .bool a3, .bool false]] w fun e w' => e = .returned (.bool true) ∧ Below w.heap.size w w' := by
  have T := twoAt w ⟨true, true, a3, a4, false⟩ ⟨true, true, a4, a3, false⟩ 23 23
  have P := Lib.hid T.1
  have Q := Lib.hid T.2
  have B0 : Hid (Below w.heap.size w ((w.alloc (.cells #[.bool true, .bool true, .bool a3, .bool a4, .bool false] 23)).alloc (.cells #[.bool true, .bool true, .bool a4, .bool a3, .bool false] 23))) := Lib.hid (((Below.refl _ _).alloc (Nat.le_refl _) _).alloc (by simp) _)
  clear T
  go_enter Try.func7, Try.ntmps7
  go_wp2_with fail
  refine (smay_bl true true a3 a4 false true true a4 a3 false (r := true) hm.out _).mono ?_
  rintro e w1 ⟨rfl, b⟩
  have B1 := Lib.hid (below2S B0.out b)
  replace P := Lib.hid (P.out.later b)
  replace Q := Lib.hid (Q.out.later b)
  clear b B0
  obtain ⟨p0, p1, p2, p3, p4⟩ := P.out
  obtain ⟨q0, q1, q2, q3, q4⟩ := Q.out
  simp only at p0 p1 p2 p3 p4 q0 q1 q2 q3 q4
  go_wp2_with fail
  refine (sname_eq true true a3 a4 false (r := [98, 111, 116, 104]) rfl _).mono ?_
  rintro e w2 ⟨rfl, b⟩
  have B2 := Lib.hid (below2S B1.out b)
  replace P := Lib.hid (P.out.later b)
  replace Q := Lib.hid (Q.out.later b)
  clear b B1 p0 p1 p2 p3 p4 q0 q1 q2 q3 q4
  obtain ⟨p0, p1, p2, p3, p4⟩ := P.out
  obtain ⟨q0, q1, q2, q3, q4⟩ := Q.out
  simp only at p0 p1 p2 p3 p4 q0 q1 q2 q3 q4
  go_wp2_with fail
  refine (sname_eq true true a4 a3 false (r := [98, 111, 116, 104]) rfl _).mono ?_
  rintro e w3 ⟨rfl, b⟩
  have B3 := Lib.hid (below2S B2.out b)
  replace P := Lib.hid (P.out.later b)
  replace Q := Lib.hid (Q.out.later b)
  clear b B2 p0 p1 p2 p3 p4 q0 q1 q2 q3 q4
  obtain ⟨p0, p1, p2, p3, p4⟩ := P.out
  obtain ⟨q0, q1, q2, q3, q4⟩ := Q.out
  simp only at p0 p1 p2 p3 p4 q0 q1 q2 q3 q4
  go_wp2_with fail
  refine (smay_bl true true a4 a3 false true true a3 a4 false (r := true) hn.out _).mono ?_
  rintro e w4 ⟨rfl, b⟩
  have B4 := Lib.hid (below2S B3.out b)
  replace P := Lib.hid (P.out.later b)
  replace Q := Lib.hid (Q.out.later b)
  clear b B3 p0 p1 p2 p3 p4 q0 q1 q2 q3 q4
  obtain ⟨p0, p1, p2, p3, p4⟩ := P.out
  obtain ⟨q0, q1, q2, q3, q4⟩ := Q.out
  simp only at p0 p1 p2 p3 p4 q0 q1 q2 q3 q4
  go_wp2_with fail
  refine (ssees_eq true true a3 a4 false true true a4 a3 false (r := true) rfl _).mono ?_
  rintro e w5 ⟨rfl, b⟩
  have B5 := Lib.hid (below2S B4.out b)
  replace P := Lib.hid (P.out.later b)
  replace Q := Lib.hid (Q.out.later b)
  clear b B4 p0 p1 p2 p3 p4 q0 q1 q2 q3 q4
  obtain ⟨p0, p1, p2, p3, p4⟩ := P.out
  obtain ⟨q0, q1, q2, q3, q4⟩ := Q.out
  simp only at p0 p1 p2 p3 p4 q0 q1 q2 q3 q4
  go_wp2_with fail
  refine (ssees_eq true true a4 a3 false true true a3 a4 false (r := true) rfl _).mono ?_
  rintro e w6 ⟨rfl, b⟩
  have B6 := Lib.hid (below2S B5.out b)
  replace P := Lib.hid (P.out.later b)
  replace Q := Lib.hid (Q.out.later b)
  clear b B5 p0 p1 p2 p3 p4 q0 q1 q2 q3 q4
  obtain ⟨p0, p1, p2, p3, p4⟩ := P.out
  obtain ⟨q0, q1, q2, q3, q4⟩ := Q.out
  simp only at p0 p1 p2 p3 p4 q0 q1 q2 q3 q4
  go_wp2_with fail
  refine (live7 _).mono ?_
  rintro e w7 ⟨rfl, b⟩
  have B7 := Lib.hid (below2S B6.out b)
  replace P := Lib.hid (P.out.later b)
  replace Q := Lib.hid (Q.out.later b)
  clear b B6 p0 p1 p2 p3 p4 q0 q1 q2 q3 q4
  go_wp2_with fail
  go_ret
  exact ⟨rfl, B7.out⟩

set_option maxHeartbeats 3200000 in
set_option maxRecDepth 100000 in
theorem sides_1101 {w : World} (a3 a4 : Bool) (hm : Hid (suMay ⟨true, true, a3, a4, false⟩ ⟨true, true, a4, a3, true⟩ = true)) (hn : Hid (suMay ⟨true, true, a4, a3, true⟩ ⟨true, true, a3, a4, false⟩ = true)) :
    Calls Try.prog 7 #[.agg #[.bool true, .bool true, .bool a3, .bool a4, .bool false], .agg #[.bool true, .bool true, .bool a4, .bool a3, .bool true]] w fun e w' => e = .returned (.bool true) ∧ Below w.heap.size w w' := by
  have T := twoAt w ⟨true, true, a3, a4, false⟩ ⟨true, true, a4, a3, true⟩ 23 23
  have P := Lib.hid T.1
  have Q := Lib.hid T.2
  have B0 : Hid (Below w.heap.size w ((w.alloc (.cells #[.bool true, .bool true, .bool a3, .bool a4, .bool false] 23)).alloc (.cells #[.bool true, .bool true, .bool a4, .bool a3, .bool true] 23))) := Lib.hid (((Below.refl _ _).alloc (Nat.le_refl _) _).alloc (by simp) _)
  clear T
  go_enter Try.func7, Try.ntmps7
  go_wp2_with fail
  refine (smay_bl true true a3 a4 false true true a4 a3 true (r := true) hm.out _).mono ?_
  rintro e w1 ⟨rfl, b⟩
  have B1 := Lib.hid (below2S B0.out b)
  replace P := Lib.hid (P.out.later b)
  replace Q := Lib.hid (Q.out.later b)
  clear b B0
  obtain ⟨p0, p1, p2, p3, p4⟩ := P.out
  obtain ⟨q0, q1, q2, q3, q4⟩ := Q.out
  simp only at p0 p1 p2 p3 p4 q0 q1 q2 q3 q4
  go_wp2_with fail
  refine (sname_eq true true a3 a4 false (r := [98, 111, 116, 104]) rfl _).mono ?_
  rintro e w2 ⟨rfl, b⟩
  have B2 := Lib.hid (below2S B1.out b)
  replace P := Lib.hid (P.out.later b)
  replace Q := Lib.hid (Q.out.later b)
  clear b B1 p0 p1 p2 p3 p4 q0 q1 q2 q3 q4
  obtain ⟨p0, p1, p2, p3, p4⟩ := P.out
  obtain ⟨q0, q1, q2, q3, q4⟩ := Q.out
  simp only at p0 p1 p2 p3 p4 q0 q1 q2 q3 q4
  go_wp2_with fail
  refine (sname_eq true true a4 a3 true (r := [98, 111, 116, 104]) rfl _).mono ?_
  rintro e w3 ⟨rfl, b⟩
  have B3 := Lib.hid (below2S B2.out b)
  replace P := Lib.hid (P.out.later b)
  replace Q := Lib.hid (Q.out.later b)
  clear b B2 p0 p1 p2 p3 p4 q0 q1 q2 q3 q4
  obtain ⟨p0, p1, p2, p3, p4⟩ := P.out
  obtain ⟨q0, q1, q2, q3, q4⟩ := Q.out
  simp only at p0 p1 p2 p3 p4 q0 q1 q2 q3 q4
  go_wp2_with fail
  refine (smay_bl true true a4 a3 true true true a3 a4 false (r := true) hn.out _).mono ?_
  rintro e w4 ⟨rfl, b⟩
  have B4 := Lib.hid (below2S B3.out b)
  replace P := Lib.hid (P.out.later b)
  replace Q := Lib.hid (Q.out.later b)
  clear b B3 p0 p1 p2 p3 p4 q0 q1 q2 q3 q4
  obtain ⟨p0, p1, p2, p3, p4⟩ := P.out
  obtain ⟨q0, q1, q2, q3, q4⟩ := Q.out
  simp only at p0 p1 p2 p3 p4 q0 q1 q2 q3 q4
  go_wp2_with fail
  refine (ssees_eq true true a3 a4 false true true a4 a3 true (r := false) rfl _).mono ?_
  rintro e w5 ⟨rfl, b⟩
  have B5 := Lib.hid (below2S B4.out b)
  replace P := Lib.hid (P.out.later b)
  replace Q := Lib.hid (Q.out.later b)
  clear b B4 p0 p1 p2 p3 p4 q0 q1 q2 q3 q4
  obtain ⟨p0, p1, p2, p3, p4⟩ := P.out
  obtain ⟨q0, q1, q2, q3, q4⟩ := Q.out
  simp only at p0 p1 p2 p3 p4 q0 q1 q2 q3 q4
  go_wp2_with fail
  refine (ssees_eq true true a4 a3 true true true a3 a4 false (r := false) rfl _).mono ?_
  rintro e w6 ⟨rfl, b⟩
  have B6 := Lib.hid (below2S B5.out b)
  replace P := Lib.hid (P.out.later b)
  replace Q := Lib.hid (Q.out.later b)
  clear b B5 p0 p1 p2 p3 p4 q0 q1 q2 q3 q4
  obtain ⟨p0, p1, p2, p3, p4⟩ := P.out
  obtain ⟨q0, q1, q2, q3, q4⟩ := Q.out
  simp only at p0 p1 p2 p3 p4 q0 q1 q2 q3 q4
  go_wp2_with fail
  refine (live7 _).mono ?_
  rintro e w7 ⟨rfl, b⟩
  have B7 := Lib.hid (below2S B6.out b)
  replace P := Lib.hid (P.out.later b)
  replace Q := Lib.hid (Q.out.later b)
  clear b B6 p0 p1 p2 p3 p4 q0 q1 q2 q3 q4
  go_wp2_with fail
  go_ret
  exact ⟨rfl, B7.out⟩

set_option maxHeartbeats 3200000 in
set_option maxRecDepth 100000 in
theorem sides_1110 {w : World} (a3 a4 : Bool) (hm : Hid (suMay ⟨true, true, a3, a4, true⟩ ⟨true, true, a4, a3, false⟩ = true)) (hn : Hid (suMay ⟨true, true, a4, a3, false⟩ ⟨true, true, a3, a4, true⟩ = true)) :
    Calls Try.prog 7 #[.agg #[.bool true, .bool true, .bool a3, .bool a4, .bool true], .agg #[.bool true, .bool true, .bool a4, .bool a3, .bool false]] w fun e w' => e = .returned (.bool true) ∧ Below w.heap.size w w' := by
  have T := twoAt w ⟨true, true, a3, a4, true⟩ ⟨true, true, a4, a3, false⟩ 23 23
  have P := Lib.hid T.1
  have Q := Lib.hid T.2
  have B0 : Hid (Below w.heap.size w ((w.alloc (.cells #[.bool true, .bool true, .bool a3, .bool a4, .bool true] 23)).alloc (.cells #[.bool true, .bool true, .bool a4, .bool a3, .bool false] 23))) := Lib.hid (((Below.refl _ _).alloc (Nat.le_refl _) _).alloc (by simp) _)
  clear T
  go_enter Try.func7, Try.ntmps7
  go_wp2_with fail
  refine (smay_bl true true a3 a4 true true true a4 a3 false (r := true) hm.out _).mono ?_
  rintro e w1 ⟨rfl, b⟩
  have B1 := Lib.hid (below2S B0.out b)
  replace P := Lib.hid (P.out.later b)
  replace Q := Lib.hid (Q.out.later b)
  clear b B0
  obtain ⟨p0, p1, p2, p3, p4⟩ := P.out
  obtain ⟨q0, q1, q2, q3, q4⟩ := Q.out
  simp only at p0 p1 p2 p3 p4 q0 q1 q2 q3 q4
  go_wp2_with fail
  refine (sname_eq true true a3 a4 true (r := [98, 111, 116, 104]) rfl _).mono ?_
  rintro e w2 ⟨rfl, b⟩
  have B2 := Lib.hid (below2S B1.out b)
  replace P := Lib.hid (P.out.later b)
  replace Q := Lib.hid (Q.out.later b)
  clear b B1 p0 p1 p2 p3 p4 q0 q1 q2 q3 q4
  obtain ⟨p0, p1, p2, p3, p4⟩ := P.out
  obtain ⟨q0, q1, q2, q3, q4⟩ := Q.out
  simp only at p0 p1 p2 p3 p4 q0 q1 q2 q3 q4
  go_wp2_with fail
  refine (sname_eq true true a4 a3 false (r := [98, 111, 116, 104]) rfl _).mono ?_
  rintro e w3 ⟨rfl, b⟩
  have B3 := Lib.hid (below2S B2.out b)
  replace P := Lib.hid (P.out.later b)
  replace Q := Lib.hid (Q.out.later b)
  clear b B2 p0 p1 p2 p3 p4 q0 q1 q2 q3 q4
  obtain ⟨p0, p1, p2, p3, p4⟩ := P.out
  obtain ⟨q0, q1, q2, q3, q4⟩ := Q.out
  simp only at p0 p1 p2 p3 p4 q0 q1 q2 q3 q4
  go_wp2_with fail
  refine (smay_bl true true a4 a3 false true true a3 a4 true (r := true) hn.out _).mono ?_
  rintro e w4 ⟨rfl, b⟩
  have B4 := Lib.hid (below2S B3.out b)
  replace P := Lib.hid (P.out.later b)
  replace Q := Lib.hid (Q.out.later b)
  clear b B3 p0 p1 p2 p3 p4 q0 q1 q2 q3 q4
  obtain ⟨p0, p1, p2, p3, p4⟩ := P.out
  obtain ⟨q0, q1, q2, q3, q4⟩ := Q.out
  simp only at p0 p1 p2 p3 p4 q0 q1 q2 q3 q4
  go_wp2_with fail
  refine (ssees_eq true true a3 a4 true true true a4 a3 false (r := false) rfl _).mono ?_
  rintro e w5 ⟨rfl, b⟩
  have B5 := Lib.hid (below2S B4.out b)
  replace P := Lib.hid (P.out.later b)
  replace Q := Lib.hid (Q.out.later b)
  clear b B4 p0 p1 p2 p3 p4 q0 q1 q2 q3 q4
  obtain ⟨p0, p1, p2, p3, p4⟩ := P.out
  obtain ⟨q0, q1, q2, q3, q4⟩ := Q.out
  simp only at p0 p1 p2 p3 p4 q0 q1 q2 q3 q4
  go_wp2_with fail
  refine (ssees_eq true true a4 a3 false true true a3 a4 true (r := false) rfl _).mono ?_
  rintro e w6 ⟨rfl, b⟩
  have B6 := Lib.hid (below2S B5.out b)
  replace P := Lib.hid (P.out.later b)
  replace Q := Lib.hid (Q.out.later b)
  clear b B5 p0 p1 p2 p3 p4 q0 q1 q2 q3 q4
  obtain ⟨p0, p1, p2, p3, p4⟩ := P.out
  obtain ⟨q0, q1, q2, q3, q4⟩ := Q.out
  simp only at p0 p1 p2 p3 p4 q0 q1 q2 q3 q4
  go_wp2_with fail
  refine (live7 _).mono ?_
  rintro e w7 ⟨rfl, b⟩
  have B7 := Lib.hid (below2S B6.out b)
  replace P := Lib.hid (P.out.later b)
  replace Q := Lib.hid (Q.out.later b)
  clear b B6 p0 p1 p2 p3 p4 q0 q1 q2 q3 q4
  go_wp2_with fail
  go_ret
  exact ⟨rfl, B7.out⟩

set_option maxHeartbeats 3200000 in
set_option maxRecDepth 100000 in
theorem sides_1111 {w : World} (a3 a4 : Bool) (hm : Hid (suMay ⟨true, true, a3, a4, true⟩ ⟨true, true, a4, a3, true⟩ = true)) (hn : Hid (suMay ⟨true, true, a4, a3, true⟩ ⟨true, true, a3, a4, true⟩ = true)) :
    Calls Try.prog 7 #[.agg #[.bool true, .bool true, .bool a3, .bool a4, .bool true], .agg #[.bool true, .bool true, .bool a4, .bool a3, .bool true]] w fun e w' => e = .returned (.bool true) ∧ Below w.heap.size w w' := by
  have T := twoAt w ⟨true, true, a3, a4, true⟩ ⟨true, true, a4, a3, true⟩ 23 23
  have P := Lib.hid T.1
  have Q := Lib.hid T.2
  have B0 : Hid (Below w.heap.size w ((w.alloc (.cells #[.bool true, .bool true, .bool a3, .bool a4, .bool true] 23)).alloc (.cells #[.bool true, .bool true, .bool a4, .bool a3, .bool true] 23))) := Lib.hid (((Below.refl _ _).alloc (Nat.le_refl _) _).alloc (by simp) _)
  clear T
  go_enter Try.func7, Try.ntmps7
  go_wp2_with fail
  refine (smay_bl true true a3 a4 true true true a4 a3 true (r := true) hm.out _).mono ?_
  rintro e w1 ⟨rfl, b⟩
  have B1 := Lib.hid (below2S B0.out b)
  replace P := Lib.hid (P.out.later b)
  replace Q := Lib.hid (Q.out.later b)
  clear b B0
  obtain ⟨p0, p1, p2, p3, p4⟩ := P.out
  obtain ⟨q0, q1, q2, q3, q4⟩ := Q.out
  simp only at p0 p1 p2 p3 p4 q0 q1 q2 q3 q4
  go_wp2_with fail
  refine (sname_eq true true a3 a4 true (r := [98, 111, 116, 104]) rfl _).mono ?_
  rintro e w2 ⟨rfl, b⟩
  have B2 := Lib.hid (below2S B1.out b)
  replace P := Lib.hid (P.out.later b)
  replace Q := Lib.hid (Q.out.later b)
  clear b B1 p0 p1 p2 p3 p4 q0 q1 q2 q3 q4
  obtain ⟨p0, p1, p2, p3, p4⟩ := P.out
  obtain ⟨q0, q1, q2, q3, q4⟩ := Q.out
  simp only at p0 p1 p2 p3 p4 q0 q1 q2 q3 q4
  go_wp2_with fail
  refine (sname_eq true true a4 a3 true (r := [98, 111, 116, 104]) rfl _).mono ?_
  rintro e w3 ⟨rfl, b⟩
  have B3 := Lib.hid (below2S B2.out b)
  replace P := Lib.hid (P.out.later b)
  replace Q := Lib.hid (Q.out.later b)
  clear b B2 p0 p1 p2 p3 p4 q0 q1 q2 q3 q4
  obtain ⟨p0, p1, p2, p3, p4⟩ := P.out
  obtain ⟨q0, q1, q2, q3, q4⟩ := Q.out
  simp only at p0 p1 p2 p3 p4 q0 q1 q2 q3 q4
  go_wp2_with fail
  refine (smay_bl true true a4 a3 true true true a3 a4 true (r := true) hn.out _).mono ?_
  rintro e w4 ⟨rfl, b⟩
  have B4 := Lib.hid (below2S B3.out b)
  replace P := Lib.hid (P.out.later b)
  replace Q := Lib.hid (Q.out.later b)
  clear b B3 p0 p1 p2 p3 p4 q0 q1 q2 q3 q4
  obtain ⟨p0, p1, p2, p3, p4⟩ := P.out
  obtain ⟨q0, q1, q2, q3, q4⟩ := Q.out
  simp only at p0 p1 p2 p3 p4 q0 q1 q2 q3 q4
  go_wp2_with fail
  refine (ssees_eq true true a3 a4 true true true a4 a3 true (r := false) rfl _).mono ?_
  rintro e w5 ⟨rfl, b⟩
  have B5 := Lib.hid (below2S B4.out b)
  replace P := Lib.hid (P.out.later b)
  replace Q := Lib.hid (Q.out.later b)
  clear b B4 p0 p1 p2 p3 p4 q0 q1 q2 q3 q4
  obtain ⟨p0, p1, p2, p3, p4⟩ := P.out
  obtain ⟨q0, q1, q2, q3, q4⟩ := Q.out
  simp only at p0 p1 p2 p3 p4 q0 q1 q2 q3 q4
  go_wp2_with fail
  refine (ssees_eq true true a4 a3 true true true a3 a4 true (r := false) rfl _).mono ?_
  rintro e w6 ⟨rfl, b⟩
  have B6 := Lib.hid (below2S B5.out b)
  replace P := Lib.hid (P.out.later b)
  replace Q := Lib.hid (Q.out.later b)
  clear b B5 p0 p1 p2 p3 p4 q0 q1 q2 q3 q4
  obtain ⟨p0, p1, p2, p3, p4⟩ := P.out
  obtain ⟨q0, q1, q2, q3, q4⟩ := Q.out
  simp only at p0 p1 p2 p3 p4 q0 q1 q2 q3 q4
  go_wp2_with fail
  refine (live7 _).mono ?_
  rintro e w7 ⟨rfl, b⟩
  have B7 := Lib.hid (below2S B6.out b)
  replace P := Lib.hid (P.out.later b)
  replace Q := Lib.hid (Q.out.later b)
  clear b B6 p0 p1 p2 p3 p4 q0 q1 q2 q3 q4
  go_wp2_with fail
  go_ret
  exact ⟨rfl, B7.out⟩

theorem walkSubsSides {w : World} (a1 a2 a3 a4 a5 b1 b2 b3 b4 b5 : Bool) :
    Calls Try.prog 7 #[.agg #[.bool a1, .bool a2, .bool a3, .bool a4, .bool a5], .agg #[.bool b1, .bool b2, .bool b3, .bool b4, .bool b5]] w fun e w' => e = .returned (.bool true) ∧ Below w.heap.size w w' := by
  cases hm : suMay ⟨a1, a2, a3, a4, a5⟩ ⟨b1, b2, b3, b4, b5⟩ with
  | false => exact sides_not a1 a2 a3 a4 a5 b1 b2 b3 b4 b5 hm
  | true =>
    obtain ⟨h1, h2, h3, h4⟩ := suMay_face hm
    subst h1 h2 h3 h4
    have hn := (suMay_comm _ _).trans hm
    cases b2 <;> cases b1 <;> cases a5 <;> cases b5
    · exact sides_0000 b4 b3 hm hn
    · exact sides_0001 b4 b3 hm hn
    · exact sides_0010 b4 b3 hm hn
    · exact sides_0011 b4 b3 hm hn
    · exact sides_0100 b4 b3 hm hn
    · exact sides_0101 b4 b3 hm hn
    · exact sides_0110 b4 b3 hm hn
    · exact sides_0111 b4 b3 hm hn
    · exact sides_1000 b4 b3 hm hn
    · exact sides_1001 b4 b3 hm hn
    · exact sides_1010 b4 b3 hm hn
    · exact sides_1011 b4 b3 hm hn
    · exact sides_1100 b4 b3 hm hn
    · exact sides_1101 b4 b3 hm hn
    · exact sides_1110 b4 b3 hm hn
    · exact sides_1111 b4 b3 hm hn

end Go.Proofs.Ytjlgdhggeejkkaa
