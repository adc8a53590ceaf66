/-
  THE WALK OF PaceMay.
-/
import Derived.Test.YtnmdjkecjlpkkaaPacLive
import Derived.Test.YtnmdjkecjlpkkaaPacFrame
import Derived.BigQuiet
import Derived.Lib.QuietBelow
namespace Go.Proofs.Ytnmdjkecjlpkkaa
open Go.RowKit

set_option maxHeartbeats 3200000 in
set_option maxRecDepth 100000 in
theorem pmayA {w : World} (a b d e tok at' n0 n1 : Int) (h1 : pcOne ⟨a, b, d, e⟩ ⟨tok, at'⟩ = false) :
    Calls Try.prog 11 #[.agg #[.int .i64 a, .int .i64 b, .int .i64 d, .int .i64 e], .agg #[.int .i64 tok, .int .i64 at'], .agg #[.int .i64 n0, .int .i64 n1]] w fun e w' => e = .returned (.bool true) ∧ Below w.heap.size w w' := by
  have bn := bl_newZ (boxes w a b d e tok at') (.cells #[.int .i64 n0, .int .i64 n1] 64)
  have HB := Lib.hid (below2Z (boxes_below w a b d e tok at') bn)
  have K0 := Lib.hid ((boxes_cfg w a b d e tok at').later bn)
  have K1 := Lib.hid ((boxes_bkt w a b d e tok at').later bn)
  have KN := Lib.hid (cellsAt_made (w := boxes w a b d e tok at') (cs := #[.int .i64 n0, .int .i64 n1]) (vs := [.int .i64 n0, .int .i64 n1]) (B := w.heap.size + 1 + 1) rfl 64 (by simp [boxes]))
  clear bn
  have O1 := Lib.hid (rpone_any a b d e tok at' (Lib.hid h1))
  clear h1
  go_enter Try.func11, Try.ntmps11
  go_wp2_with fail
  refine (O1.out _).mono ?_
  rintro e w1 ⟨rfl, bz⟩
  replace K0 := Lib.hid (K0.out.later bz)
  replace K1 := Lib.hid (K1.out.later bz)
  replace KN := Lib.hid (KN.out.later bz)
  replace HB := Lib.hid (below2Z HB.out bz)
  clear bz
  obtain ⟨K0_0, K0_1, K0_2, K0_3⟩ := cells4P K0.out
  obtain ⟨K1_0, K1_1⟩ := cells2P K1.out
  obtain ⟨KN_0, KN_1⟩ := cells2P KN.out
  go_wp2_with fail
  refine (live16 _).mono ?_
  rintro e w2 ⟨rfl, bz⟩
  clear K0_0 K0_1 K0_2 K0_3 K1_0 K1_1 KN_0 KN_1
  replace K0 := Lib.hid (K0.out.later bz)
  replace K1 := Lib.hid (K1.out.later bz)
  replace KN := Lib.hid (KN.out.later bz)
  replace HB := Lib.hid (below2Z HB.out bz)
  clear bz
  go_wp2_with fail
  go_ret
  exact ⟨rfl, HB.out⟩

set_option maxHeartbeats 3200000 in
set_option maxRecDepth 100000 in
theorem pmayB {w : World} (a b d e tok at' n0 n1 : Int) (h1 : pcOne ⟨a, b, d, e⟩ ⟨tok, at'⟩ = true) (h2 : pcTime n0 = false) :
    Calls Try.prog 11 #[.agg #[.int .i64 a, .int .i64 b, .int .i64 d, .int .i64 e], .agg #[.int .i64 tok, .int .i64 at'], .agg #[.int .i64 n0, .int .i64 n1]] w fun e w' => e = .returned (.bool true) ∧ Below w.heap.size w w' := by
  have bn := bl_newZ (boxes w a b d e tok at') (.cells #[.int .i64 n0, .int .i64 n1] 64)
  have HB := Lib.hid (below2Z (boxes_below w a b d e tok at') bn)
  have K0 := Lib.hid ((boxes_cfg w a b d e tok at').later bn)
  have K1 := Lib.hid ((boxes_bkt w a b d e tok at').later bn)
  have KN := Lib.hid (cellsAt_made (w := boxes w a b d e tok at') (cs := #[.int .i64 n0, .int .i64 n1]) (vs := [.int .i64 n0, .int .i64 n1]) (B := w.heap.size + 1 + 1) rfl 64 (by simp [boxes]))
  clear bn
  have O1 := Lib.hid (rpone_any a b d e tok at' (Lib.hid h1))
  have TM0 := Lib.hid (rptime_any n0)
  rw [h2] at TM0
  clear h1 h2
  go_enter Try.func11, Try.ntmps11
  go_wp2_with fail
  refine (O1.out _).mono ?_
  rintro e w1 ⟨rfl, bz⟩
  replace K0 := Lib.hid (K0.out.later bz)
  replace K1 := Lib.hid (K1.out.later bz)
  replace KN := Lib.hid (KN.out.later bz)
  replace HB := Lib.hid (below2Z HB.out bz)
  clear bz
  obtain ⟨K0_0, K0_1, K0_2, K0_3⟩ := cells4P K0.out
  obtain ⟨K1_0, K1_1⟩ := cells2P K1.out
  obtain ⟨KN_0, KN_1⟩ := cells2P KN.out
  go_wp2_with fail
  refine (TM0.out _).mono ?_
  rintro e w2 ⟨rfl, rfl⟩
  go_wp2_with fail
  refine (live16 _).mono ?_
  rintro e w2 ⟨rfl, bz⟩
  clear K0_0 K0_1 K0_2 K0_3 K1_0 K1_1 KN_0 KN_1
  replace K0 := Lib.hid (K0.out.later bz)
  replace K1 := Lib.hid (K1.out.later bz)
  replace KN := Lib.hid (KN.out.later bz)
  replace HB := Lib.hid (below2Z HB.out bz)
  clear bz
  go_wp2_with fail
  go_ret
  exact ⟨rfl, HB.out⟩

set_option maxHeartbeats 3200000 in
set_option maxRecDepth 100000 in
theorem pmayC {w : World} (a b d e tok at' n0 n1 : Int) (h1 : pcOne ⟨a, b, d, e⟩ ⟨tok, at'⟩ = true) (h2 : pcTime n0 = true) (h3 : pcTime n1 = false) :
    Calls Try.prog 11 #[.agg #[.int .i64 a, .int .i64 b, .int .i64 d, .int .i64 e], .agg #[.int .i64 tok, .int .i64 at'], .agg #[.int .i64 n0, .int .i64 n1]] w fun e w' => e = .returned (.bool true) ∧ Below w.heap.size w w' := by
  have bn := bl_newZ (boxes w a b d e tok at') (.cells #[.int .i64 n0, .int .i64 n1] 64)
  have HB := Lib.hid (below2Z (boxes_below w a b d e tok at') bn)
  have K0 := Lib.hid ((boxes_cfg w a b d e tok at').later bn)
  have K1 := Lib.hid ((boxes_bkt w a b d e tok at').later bn)
  have KN := Lib.hid (cellsAt_made (w := boxes w a b d e tok at') (cs := #[.int .i64 n0, .int .i64 n1]) (vs := [.int .i64 n0, .int .i64 n1]) (B := w.heap.size + 1 + 1) rfl 64 (by simp [boxes]))
  clear bn
  have O1 := Lib.hid (rpone_any a b d e tok at' (Lib.hid h1))
  have TM0 := Lib.hid (rptime_any n0)
  rw [h2] at TM0
  have TM1 := Lib.hid (rptime_any n1)
  rw [h3] at TM1
  clear h1 h2 h3
  go_enter Try.func11, Try.ntmps11
  go_wp2_with fail
  refine (O1.out _).mono ?_
  rintro e w1 ⟨rfl, bz⟩
  replace K0 := Lib.hid (K0.out.later bz)
  replace K1 := Lib.hid (K1.out.later bz)
  replace KN := Lib.hid (KN.out.later bz)
  replace HB := Lib.hid (below2Z HB.out bz)
  clear bz
  obtain ⟨K0_0, K0_1, K0_2, K0_3⟩ := cells4P K0.out
  obtain ⟨K1_0, K1_1⟩ := cells2P K1.out
  obtain ⟨KN_0, KN_1⟩ := cells2P KN.out
  go_wp2_with fail
  refine (TM0.out _).mono ?_
  rintro e w2 ⟨rfl, rfl⟩
  go_wp2_with fail
  refine (TM1.out _).mono ?_
  rintro e w2 ⟨rfl, rfl⟩
  go_wp2_with fail
  refine (live16 _).mono ?_
  rintro e w2 ⟨rfl, bz⟩
  clear K0_0 K0_1 K0_2 K0_3 K1_0 K1_1 KN_0 KN_1
  replace K0 := Lib.hid (K0.out.later bz)
  replace K1 := Lib.hid (K1.out.later bz)
  replace KN := Lib.hid (KN.out.later bz)
  replace HB := Lib.hid (below2Z HB.out bz)
  clear bz
  go_wp2_with fail
  go_ret
  exact ⟨rfl, HB.out⟩

set_option maxHeartbeats 3200000 in
set_option maxRecDepth 100000 in
theorem pmayD {w : World} (a b d e tok at' n0 n1 : Int) (h1 : pcOne ⟨a, b, d, e⟩ ⟨tok, at'⟩ = true) (h2 : pcTime n0 = true) (h3 : pcTime n1 = true) :
    Calls Try.prog 11 #[.agg #[.int .i64 a, .int .i64 b, .int .i64 d, .int .i64 e], .agg #[.int .i64 tok, .int .i64 at'], .agg #[.int .i64 n0, .int .i64 n1]] w fun e w' => e = .returned (.bool true) ∧ Below w.heap.size w w' := by
  have bn := bl_newZ (boxes w a b d e tok at') (.cells #[.int .i64 n0, .int .i64 n1] 64)
  have HB := Lib.hid (below2Z (boxes_below w a b d e tok at') bn)
  have K0 := Lib.hid ((boxes_cfg w a b d e tok at').later bn)
  have K1 := Lib.hid ((boxes_bkt w a b d e tok at').later bn)
  have KN := Lib.hid (cellsAt_made (w := boxes w a b d e tok at') (cs := #[.int .i64 n0, .int .i64 n1]) (vs := [.int .i64 n0, .int .i64 n1]) (B := w.heap.size + 1 + 1) rfl 64 (by simp [boxes]))
  clear bn
  have O1 := Lib.hid (rpone_any a b d e tok at' (Lib.hid h1))
  have TM0 := Lib.hid (rptime_any n0)
  rw [h2] at TM0
  have TM1 := Lib.hid (rptime_any n1)
  rw [h3] at TM1
  obtain ⟨⟨⟨x, y⟩, is⟩, hT⟩ : ∃ r, pcTake ⟨a, b, d, e⟩ ⟨tok, at'⟩ n0 = r := ⟨_, rfl⟩
  obtain ⟨p1, p2, p3, p4, p5, p6, p7, p8, p9⟩ := pace_may h1 h2 h3 hT
  have T1 := Lib.hid (ptake_any a b d e tok at' n0 (Lib.hid hT))
  have O2 := Lib.hid (rpone_any a b d e x y (Lib.hid p1))
  obtain ⟨lv, hL⟩ : ∃ r, pcLevel ⟨a, b, d, e⟩ ⟨tok, at'⟩ n0 = r := ⟨_, rfl⟩
  obtain ⟨lv1, hL1⟩ : ∃ r, pcLevel ⟨a, b, d, e⟩ ⟨tok, at'⟩ n1 = r := ⟨_, rfl⟩
  have LV := Lib.hid (plevel_any a b d e tok at' n0 (Lib.hid hL))
  have LV1 := Lib.hid (plevel_any a b d e tok at' n1 (Lib.hid hL1))
  obtain ⟨⟨⟨x2, y2⟩, is2⟩, hT2⟩ : ∃ r, pcTake ⟨a, b, d, e⟩ ⟨tok, at'⟩ at' = r := ⟨_, rfl⟩
  rw [hT2] at p9
  have T2 := Lib.hid (ptake_any a b d e tok at' (min n0 at') (Lib.hid p9))
  have T3 := Lib.hid (ptake_any a b d e tok at' at' (Lib.hid hT2))
  have q1 := bkt_eql x2 y2 x2 y2 (r := true) (by simp)
  have q2 : (is2 == is2) = true := by simp
  rw [hL] at p3 p4 p5 p6 p8
  rw [hL1] at p8
  simp only at p2 p4 p6 p7
  obtain ⟨hm, -⟩ := pcOne_iff.1 h1
  obtain ⟨-, -, -, m2, -⟩ := pcMay_iff.1 hm
  simp only at m2
  have t1 : (y != max n0 at') = false := by simp [p2]
  have t2 := p3.symm
  have t3 : decide (b < lv) = false := by simp; omega
  have t4 : decide (lv < 0) = false := by simp; omega
  have w1' : IntKind.i64.wrap (lv - 1) = lv - 1 := IntWalk.i64_in _ (by omega)
  cases is with
  | true =>
    by_cases hle : n0 ≤ n1
    · skip
      have t5 : (x != lv - 1) = false := by simp [p6 rfl]
      have t6 : decide (n0 ≤ n1) = true := by simpa using hle
      have t7 : decide (lv1 < lv) = false := by have := p8 hle; simp; omega
      clear hT hL hL1 hT2 p1 p2 p3 p4 p5 p6 p7 p8 p9 h1 h2 h3 hm m2 hle
      go_enter Try.func11, Try.ntmps11
      go_wp2_with fail
      refine (O1.out _).mono ?_
      rintro e w1 ⟨rfl, bz⟩
      replace K0 := Lib.hid (K0.out.later bz)
      replace K1 := Lib.hid (K1.out.later bz)
      replace KN := Lib.hid (KN.out.later bz)
      replace HB := Lib.hid (below2Z HB.out bz)
      clear bz
      obtain ⟨K0_0, K0_1, K0_2, K0_3⟩ := cells4P K0.out
      obtain ⟨K1_0, K1_1⟩ := cells2P K1.out
      obtain ⟨KN_0, KN_1⟩ := cells2P KN.out
      go_wp2_with fail
      refine (TM0.out _).mono ?_
      rintro e w2 ⟨rfl, rfl⟩
      go_wp2_with fail
      refine (TM1.out _).mono ?_
      rintro e w2 ⟨rfl, rfl⟩
      go_wp2_with fail
      refine (T1.out _).mono ?_
      rintro e w2 ⟨rfl, bz⟩
      clear K0_0 K0_1 K0_2 K0_3 K1_0 K1_1 KN_0 KN_1
      replace K0 := Lib.hid (K0.out.later bz)
      replace K1 := Lib.hid (K1.out.later bz)
      replace KN := Lib.hid (KN.out.later bz)
      replace HB := Lib.hid (below2Z HB.out bz)
      clear bz
      have bz := bl_newZ w2 (.cells #[.int .i64 x, .int .i64 y] 54)
      replace K0 := Lib.hid (K0.out.later bz)
      replace K1 := Lib.hid (K1.out.later bz)
      replace KN := Lib.hid (KN.out.later bz)
      replace HB := Lib.hid (below2Z HB.out bz)
      have K4 := Lib.hid (cellsAt_made (w := w2) (cs := #[.int .i64 x, .int .i64 y]) (vs := [.int .i64 x, .int .i64 y]) (by rfl) 54 rfl)
      clear bz
      obtain ⟨K0_0, K0_1, K0_2, K0_3⟩ := cells4P K0.out
      obtain ⟨K1_0, K1_1⟩ := cells2P K1.out
      obtain ⟨KN_0, KN_1⟩ := cells2P KN.out
      go_wp2_with fail
      generalize hW : w2.alloc (.cells #[.int .i64 x, .int .i64 y] 54) = w3 at HB K0 K1 KN K4 K0_0 K0_1 K0_2 K0_3 K1_0 K1_1 KN_0 KN_1 ⊢
      clear hW
      refine (LV.out _).mono ?_
      rintro e w4 ⟨rfl, bz⟩
      clear K0_0 K0_1 K0_2 K0_3 K1_0 K1_1 KN_0 KN_1
      replace K0 := Lib.hid (K0.out.later bz)
      replace K1 := Lib.hid (K1.out.later bz)
      replace KN := Lib.hid (KN.out.later bz)
      replace K4 := Lib.hid (K4.out.later bz)
      replace HB := Lib.hid (below2Z HB.out bz)
      clear bz
      obtain ⟨K0_0, K0_1, K0_2, K0_3⟩ := cells4P K0.out
      obtain ⟨K1_0, K1_1⟩ := cells2P K1.out
      obtain ⟨KN_0, KN_1⟩ := cells2P KN.out
      obtain ⟨K4_0, K4_1⟩ := cells2P K4.out
      go_wp2_with fail
      refine (O2.out _).mono ?_
      rintro e w5 ⟨rfl, bz⟩
      clear K0_0 K0_1 K0_2 K0_3 K1_0 K1_1 KN_0 KN_1 K4_0 K4_1
      replace K0 := Lib.hid (K0.out.later bz)
      replace K1 := Lib.hid (K1.out.later bz)
      replace KN := Lib.hid (KN.out.later bz)
      replace K4 := Lib.hid (K4.out.later bz)
      replace HB := Lib.hid (below2Z HB.out bz)
      clear bz
      obtain ⟨K0_0, K0_1, K0_2, K0_3⟩ := cells4P K0.out
      obtain ⟨K1_0, K1_1⟩ := cells2P K1.out
      obtain ⟨KN_0, KN_1⟩ := cells2P KN.out
      obtain ⟨K4_0, K4_1⟩ := cells2P K4.out
      go_wp2_with fail
      refine (LV1.out _).mono ?_
      rintro e w6 ⟨rfl, bz⟩
      clear K0_0 K0_1 K0_2 K0_3 K1_0 K1_1 KN_0 KN_1 K4_0 K4_1
      replace K0 := Lib.hid (K0.out.later bz)
      replace K1 := Lib.hid (K1.out.later bz)
      replace KN := Lib.hid (KN.out.later bz)
      replace K4 := Lib.hid (K4.out.later bz)
      replace HB := Lib.hid (below2Z HB.out bz)
      clear bz
      obtain ⟨K0_0, K0_1, K0_2, K0_3⟩ := cells4P K0.out
      obtain ⟨K1_0, K1_1⟩ := cells2P K1.out
      obtain ⟨KN_0, KN_1⟩ := cells2P KN.out
      go_wp2_with fail
      refine (T2.out _).mono ?_
      rintro e w7 ⟨rfl, bz⟩
      clear K0_0 K0_1 K0_2 K0_3 K1_0 K1_1 KN_0 KN_1
      replace K0 := Lib.hid (K0.out.later bz)
      replace K1 := Lib.hid (K1.out.later bz)
      replace KN := Lib.hid (KN.out.later bz)
      replace K4 := Lib.hid (K4.out.later bz)
      replace HB := Lib.hid (below2Z HB.out bz)
      clear bz
      have bz := bl_newZ w7 (.cells #[.int .i64 x2, .int .i64 y2] 54)
      replace K0 := Lib.hid (K0.out.later bz)
      replace K1 := Lib.hid (K1.out.later bz)
      replace KN := Lib.hid (KN.out.later bz)
      replace K4 := Lib.hid (K4.out.later bz)
      replace HB := Lib.hid (below2Z HB.out bz)
      have K5 := Lib.hid (cellsAt_made (w := w7) (cs := #[.int .i64 x2, .int .i64 y2]) (vs := [.int .i64 x2, .int .i64 y2]) (by rfl) 54 rfl)
      clear bz
      obtain ⟨K0_0, K0_1, K0_2, K0_3⟩ := cells4P K0.out
      obtain ⟨K1_0, K1_1⟩ := cells2P K1.out
      obtain ⟨KN_0, KN_1⟩ := cells2P KN.out
      go_wp2_with fail
      generalize hW : w7.alloc (.cells #[.int .i64 x2, .int .i64 y2] 54) = w8 at HB K0 K1 KN K4 K5 K0_0 K0_1 K0_2 K0_3 K1_0 K1_1 KN_0 KN_1 ⊢
      clear hW
      refine (T3.out _).mono ?_
      rintro e w9 ⟨rfl, bz⟩
      clear K0_0 K0_1 K0_2 K0_3 K1_0 K1_1 KN_0 KN_1
      replace K0 := Lib.hid (K0.out.later bz)
      replace K1 := Lib.hid (K1.out.later bz)
      replace KN := Lib.hid (KN.out.later bz)
      replace K4 := Lib.hid (K4.out.later bz)
      replace K5 := Lib.hid (K5.out.later bz)
      replace HB := Lib.hid (below2Z HB.out bz)
      clear bz
      have bz := bl_newZ w9 (.cells #[.int .i64 x2, .int .i64 y2] 54)
      replace K0 := Lib.hid (K0.out.later bz)
      replace K1 := Lib.hid (K1.out.later bz)
      replace KN := Lib.hid (KN.out.later bz)
      replace K4 := Lib.hid (K4.out.later bz)
      replace K5 := Lib.hid (K5.out.later bz)
      replace HB := Lib.hid (below2Z HB.out bz)
      have K6 := Lib.hid (cellsAt_made (w := w9) (cs := #[.int .i64 x2, .int .i64 y2]) (vs := [.int .i64 x2, .int .i64 y2]) (by rfl) 54 rfl)
      clear bz
      obtain ⟨K5_0, K5_1⟩ := cells2P K5.out
      obtain ⟨K6_0, K6_1⟩ := cells2P K6.out
      go_wp2_with fail
      generalize hW : w9.alloc (.cells #[.int .i64 x2, .int .i64 y2] 54) = w10 at HB K0 K1 KN K4 K5 K6 K5_0 K5_1 K6_0 K6_1 ⊢
      clear hW
      refine (live16 _).mono ?_
      rintro e w11 ⟨rfl, bz⟩
      clear K5_0 K5_1 K6_0 K6_1
      replace K0 := Lib.hid (K0.out.later bz)
      replace K1 := Lib.hid (K1.out.later bz)
      replace KN := Lib.hid (KN.out.later bz)
      replace K4 := Lib.hid (K4.out.later bz)
      replace K5 := Lib.hid (K5.out.later bz)
      replace K6 := Lib.hid (K6.out.later bz)
      replace HB := Lib.hid (below2Z HB.out bz)
      clear bz
      go_wp2_with fail
      go_ret
      exact ⟨rfl, HB.out⟩
    · skip
      have t5 : (x != lv - 1) = false := by simp [p6 rfl]
      have t6 : decide (n0 ≤ n1) = false := by simpa using hle
      clear hT hL hL1 hT2 p1 p2 p3 p4 p5 p6 p7 p8 p9 h1 h2 h3 hm m2 hle
      go_enter Try.func11, Try.ntmps11
      go_wp2_with fail
      refine (O1.out _).mono ?_
      rintro e w1 ⟨rfl, bz⟩
      replace K0 := Lib.hid (K0.out.later bz)
      replace K1 := Lib.hid (K1.out.later bz)
      replace KN := Lib.hid (KN.out.later bz)
      replace HB := Lib.hid (below2Z HB.out bz)
      clear bz
      obtain ⟨K0_0, K0_1, K0_2, K0_3⟩ := cells4P K0.out
      obtain ⟨K1_0, K1_1⟩ := cells2P K1.out
      obtain ⟨KN_0, KN_1⟩ := cells2P KN.out
      go_wp2_with fail
      refine (TM0.out _).mono ?_
      rintro e w2 ⟨rfl, rfl⟩
      go_wp2_with fail
      refine (TM1.out _).mono ?_
      rintro e w2 ⟨rfl, rfl⟩
      go_wp2_with fail
      refine (T1.out _).mono ?_
      rintro e w2 ⟨rfl, bz⟩
      clear K0_0 K0_1 K0_2 K0_3 K1_0 K1_1 KN_0 KN_1
      replace K0 := Lib.hid (K0.out.later bz)
      replace K1 := Lib.hid (K1.out.later bz)
      replace KN := Lib.hid (KN.out.later bz)
      replace HB := Lib.hid (below2Z HB.out bz)
      clear bz
      have bz := bl_newZ w2 (.cells #[.int .i64 x, .int .i64 y] 54)
      replace K0 := Lib.hid (K0.out.later bz)
      replace K1 := Lib.hid (K1.out.later bz)
      replace KN := Lib.hid (KN.out.later bz)
      replace HB := Lib.hid (below2Z HB.out bz)
      have K4 := Lib.hid (cellsAt_made (w := w2) (cs := #[.int .i64 x, .int .i64 y]) (vs := [.int .i64 x, .int .i64 y]) (by rfl) 54 rfl)
      clear bz
      obtain ⟨K0_0, K0_1, K0_2, K0_3⟩ := cells4P K0.out
      obtain ⟨K1_0, K1_1⟩ := cells2P K1.out
      obtain ⟨KN_0, KN_1⟩ := cells2P KN.out
      go_wp2_with fail
      generalize hW : w2.alloc (.cells #[.int .i64 x, .int .i64 y] 54) = w3 at HB K0 K1 KN K4 K0_0 K0_1 K0_2 K0_3 K1_0 K1_1 KN_0 KN_1 ⊢
      clear hW
      refine (LV.out _).mono ?_
      rintro e w4 ⟨rfl, bz⟩
      clear K0_0 K0_1 K0_2 K0_3 K1_0 K1_1 KN_0 KN_1
      replace K0 := Lib.hid (K0.out.later bz)
      replace K1 := Lib.hid (K1.out.later bz)
      replace KN := Lib.hid (KN.out.later bz)
      replace K4 := Lib.hid (K4.out.later bz)
      replace HB := Lib.hid (below2Z HB.out bz)
      clear bz
      obtain ⟨K0_0, K0_1, K0_2, K0_3⟩ := cells4P K0.out
      obtain ⟨K1_0, K1_1⟩ := cells2P K1.out
      obtain ⟨KN_0, KN_1⟩ := cells2P KN.out
      obtain ⟨K4_0, K4_1⟩ := cells2P K4.out
      go_wp2_with fail
      refine (O2.out _).mono ?_
      rintro e w5 ⟨rfl, bz⟩
      clear K0_0 K0_1 K0_2 K0_3 K1_0 K1_1 KN_0 KN_1 K4_0 K4_1
      replace K0 := Lib.hid (K0.out.later bz)
      replace K1 := Lib.hid (K1.out.later bz)
      replace KN := Lib.hid (KN.out.later bz)
      replace K4 := Lib.hid (K4.out.later bz)
      replace HB := Lib.hid (below2Z HB.out bz)
      clear bz
      obtain ⟨K0_0, K0_1, K0_2, K0_3⟩ := cells4P K0.out
      obtain ⟨K1_0, K1_1⟩ := cells2P K1.out
      obtain ⟨KN_0, KN_1⟩ := cells2P KN.out
      obtain ⟨K4_0, K4_1⟩ := cells2P K4.out
      go_wp2_with fail
      refine (T2.out _).mono ?_
      rintro e w6 ⟨rfl, bz⟩
      clear K0_0 K0_1 K0_2 K0_3 K1_0 K1_1 KN_0 KN_1 K4_0 K4_1
      replace K0 := Lib.hid (K0.out.later bz)
      replace K1 := Lib.hid (K1.out.later bz)
      replace KN := Lib.hid (KN.out.later bz)
      replace K4 := Lib.hid (K4.out.later bz)
      replace HB := Lib.hid (below2Z HB.out bz)
      clear bz
      have bz := bl_newZ w6 (.cells #[.int .i64 x2, .int .i64 y2] 54)
      replace K0 := Lib.hid (K0.out.later bz)
      replace K1 := Lib.hid (K1.out.later bz)
      replace KN := Lib.hid (KN.out.later bz)
      replace K4 := Lib.hid (K4.out.later bz)
      replace HB := Lib.hid (below2Z HB.out bz)
      have K5 := Lib.hid (cellsAt_made (w := w6) (cs := #[.int .i64 x2, .int .i64 y2]) (vs := [.int .i64 x2, .int .i64 y2]) (by rfl) 54 rfl)
      clear bz
      obtain ⟨K0_0, K0_1, K0_2, K0_3⟩ := cells4P K0.out
      obtain ⟨K1_0, K1_1⟩ := cells2P K1.out
      obtain ⟨KN_0, KN_1⟩ := cells2P KN.out
      go_wp2_with fail
      generalize hW : w6.alloc (.cells #[.int .i64 x2, .int .i64 y2] 54) = w7 at HB K0 K1 KN K4 K5 K0_0 K0_1 K0_2 K0_3 K1_0 K1_1 KN_0 KN_1 ⊢
      clear hW
      refine (T3.out _).mono ?_
      rintro e w8 ⟨rfl, bz⟩
      clear K0_0 K0_1 K0_2 K0_3 K1_0 K1_1 KN_0 KN_1
      replace K0 := Lib.hid (K0.out.later bz)
      replace K1 := Lib.hid (K1.out.later bz)
      replace KN := Lib.hid (KN.out.later bz)
      replace K4 := Lib.hid (K4.out.later bz)
      replace K5 := Lib.hid (K5.out.later bz)
      replace HB := Lib.hid (below2Z HB.out bz)
      clear bz
      have bz := bl_newZ w8 (.cells #[.int .i64 x2, .int .i64 y2] 54)
      replace K0 := Lib.hid (K0.out.later bz)
      replace K1 := Lib.hid (K1.out.later bz)
      replace KN := Lib.hid (KN.out.later bz)
      replace K4 := Lib.hid (K4.out.later bz)
      replace K5 := Lib.hid (K5.out.later bz)
      replace HB := Lib.hid (below2Z HB.out bz)
      have K6 := Lib.hid (cellsAt_made (w := w8) (cs := #[.int .i64 x2, .int .i64 y2]) (vs := [.int .i64 x2, .int .i64 y2]) (by rfl) 54 rfl)
      clear bz
      obtain ⟨K5_0, K5_1⟩ := cells2P K5.out
      obtain ⟨K6_0, K6_1⟩ := cells2P K6.out
      go_wp2_with fail
      generalize hW : w8.alloc (.cells #[.int .i64 x2, .int .i64 y2] 54) = w9 at HB K0 K1 KN K4 K5 K6 K5_0 K5_1 K6_0 K6_1 ⊢
      clear hW
      refine (live16 _).mono ?_
      rintro e w10 ⟨rfl, bz⟩
      clear K5_0 K5_1 K6_0 K6_1
      replace K0 := Lib.hid (K0.out.later bz)
      replace K1 := Lib.hid (K1.out.later bz)
      replace KN := Lib.hid (KN.out.later bz)
      replace K4 := Lib.hid (K4.out.later bz)
      replace K5 := Lib.hid (K5.out.later bz)
      replace K6 := Lib.hid (K6.out.later bz)
      replace HB := Lib.hid (below2Z HB.out bz)
      clear bz
      go_wp2_with fail
      go_ret
      exact ⟨rfl, HB.out⟩
  | false =>
    by_cases hle : n0 ≤ n1
    · skip
      have t5 : (x != 0) = false := by simp [p7 rfl]
      have t6 : decide (n0 ≤ n1) = true := by simpa using hle
      have t7 : decide (lv1 < lv) = false := by have := p8 hle; simp; omega
      clear hT hL hL1 hT2 p1 p2 p3 p4 p5 p6 p7 p8 p9 h1 h2 h3 hm m2 hle
      go_enter Try.func11, Try.ntmps11
      go_wp2_with fail
      refine (O1.out _).mono ?_
      rintro e w1 ⟨rfl, bz⟩
      replace K0 := Lib.hid (K0.out.later bz)
      replace K1 := Lib.hid (K1.out.later bz)
      replace KN := Lib.hid (KN.out.later bz)
      replace HB := Lib.hid (below2Z HB.out bz)
      clear bz
      obtain ⟨K0_0, K0_1, K0_2, K0_3⟩ := cells4P K0.out
      obtain ⟨K1_0, K1_1⟩ := cells2P K1.out
      obtain ⟨KN_0, KN_1⟩ := cells2P KN.out
      go_wp2_with fail
      refine (TM0.out _).mono ?_
      rintro e w2 ⟨rfl, rfl⟩
      go_wp2_with fail
      refine (TM1.out _).mono ?_
      rintro e w2 ⟨rfl, rfl⟩
      go_wp2_with fail
      refine (T1.out _).mono ?_
      rintro e w2 ⟨rfl, bz⟩
      clear K0_0 K0_1 K0_2 K0_3 K1_0 K1_1 KN_0 KN_1
      replace K0 := Lib.hid (K0.out.later bz)
      replace K1 := Lib.hid (K1.out.later bz)
      replace KN := Lib.hid (KN.out.later bz)
      replace HB := Lib.hid (below2Z HB.out bz)
      clear bz
      have bz := bl_newZ w2 (.cells #[.int .i64 x, .int .i64 y] 54)
      replace K0 := Lib.hid (K0.out.later bz)
      replace K1 := Lib.hid (K1.out.later bz)
      replace KN := Lib.hid (KN.out.later bz)
      replace HB := Lib.hid (below2Z HB.out bz)
      have K4 := Lib.hid (cellsAt_made (w := w2) (cs := #[.int .i64 x, .int .i64 y]) (vs := [.int .i64 x, .int .i64 y]) (by rfl) 54 rfl)
      clear bz
      obtain ⟨K0_0, K0_1, K0_2, K0_3⟩ := cells4P K0.out
      obtain ⟨K1_0, K1_1⟩ := cells2P K1.out
      obtain ⟨KN_0, KN_1⟩ := cells2P KN.out
      go_wp2_with fail
      generalize hW : w2.alloc (.cells #[.int .i64 x, .int .i64 y] 54) = w3 at HB K0 K1 KN K4 K0_0 K0_1 K0_2 K0_3 K1_0 K1_1 KN_0 KN_1 ⊢
      clear hW
      refine (LV.out _).mono ?_
      rintro e w4 ⟨rfl, bz⟩
      clear K0_0 K0_1 K0_2 K0_3 K1_0 K1_1 KN_0 KN_1
      replace K0 := Lib.hid (K0.out.later bz)
      replace K1 := Lib.hid (K1.out.later bz)
      replace KN := Lib.hid (KN.out.later bz)
      replace K4 := Lib.hid (K4.out.later bz)
      replace HB := Lib.hid (below2Z HB.out bz)
      clear bz
      obtain ⟨K0_0, K0_1, K0_2, K0_3⟩ := cells4P K0.out
      obtain ⟨K1_0, K1_1⟩ := cells2P K1.out
      obtain ⟨KN_0, KN_1⟩ := cells2P KN.out
      obtain ⟨K4_0, K4_1⟩ := cells2P K4.out
      go_wp2_with fail
      refine (O2.out _).mono ?_
      rintro e w5 ⟨rfl, bz⟩
      clear K0_0 K0_1 K0_2 K0_3 K1_0 K1_1 KN_0 KN_1 K4_0 K4_1
      replace K0 := Lib.hid (K0.out.later bz)
      replace K1 := Lib.hid (K1.out.later bz)
      replace KN := Lib.hid (KN.out.later bz)
      replace K4 := Lib.hid (K4.out.later bz)
      replace HB := Lib.hid (below2Z HB.out bz)
      clear bz
      obtain ⟨K0_0, K0_1, K0_2, K0_3⟩ := cells4P K0.out
      obtain ⟨K1_0, K1_1⟩ := cells2P K1.out
      obtain ⟨KN_0, KN_1⟩ := cells2P KN.out
      obtain ⟨K4_0, K4_1⟩ := cells2P K4.out
      go_wp2_with fail
      refine (LV1.out _).mono ?_
      rintro e w6 ⟨rfl, bz⟩
      clear K0_0 K0_1 K0_2 K0_3 K1_0 K1_1 KN_0 KN_1 K4_0 K4_1
      replace K0 := Lib.hid (K0.out.later bz)
      replace K1 := Lib.hid (K1.out.later bz)
      replace KN := Lib.hid (KN.out.later bz)
      replace K4 := Lib.hid (K4.out.later bz)
      replace HB := Lib.hid (below2Z HB.out bz)
      clear bz
      obtain ⟨K0_0, K0_1, K0_2, K0_3⟩ := cells4P K0.out
      obtain ⟨K1_0, K1_1⟩ := cells2P K1.out
      obtain ⟨KN_0, KN_1⟩ := cells2P KN.out
      go_wp2_with fail
      refine (T2.out _).mono ?_
      rintro e w7 ⟨rfl, bz⟩
      clear K0_0 K0_1 K0_2 K0_3 K1_0 K1_1 KN_0 KN_1
      replace K0 := Lib.hid (K0.out.later bz)
      replace K1 := Lib.hid (K1.out.later bz)
      replace KN := Lib.hid (KN.out.later bz)
      replace K4 := Lib.hid (K4.out.later bz)
      replace HB := Lib.hid (below2Z HB.out bz)
      clear bz
      have bz := bl_newZ w7 (.cells #[.int .i64 x2, .int .i64 y2] 54)
      replace K0 := Lib.hid (K0.out.later bz)
      replace K1 := Lib.hid (K1.out.later bz)
      replace KN := Lib.hid (KN.out.later bz)
      replace K4 := Lib.hid (K4.out.later bz)
      replace HB := Lib.hid (below2Z HB.out bz)
      have K5 := Lib.hid (cellsAt_made (w := w7) (cs := #[.int .i64 x2, .int .i64 y2]) (vs := [.int .i64 x2, .int .i64 y2]) (by rfl) 54 rfl)
      clear bz
      obtain ⟨K0_0, K0_1, K0_2, K0_3⟩ := cells4P K0.out
      obtain ⟨K1_0, K1_1⟩ := cells2P K1.out
      obtain ⟨KN_0, KN_1⟩ := cells2P KN.out
      go_wp2_with fail
      generalize hW : w7.alloc (.cells #[.int .i64 x2, .int .i64 y2] 54) = w8 at HB K0 K1 KN K4 K5 K0_0 K0_1 K0_2 K0_3 K1_0 K1_1 KN_0 KN_1 ⊢
      clear hW
      refine (T3.out _).mono ?_
      rintro e w9 ⟨rfl, bz⟩
      clear K0_0 K0_1 K0_2 K0_3 K1_0 K1_1 KN_0 KN_1
      replace K0 := Lib.hid (K0.out.later bz)
      replace K1 := Lib.hid (K1.out.later bz)
      replace KN := Lib.hid (KN.out.later bz)
      replace K4 := Lib.hid (K4.out.later bz)
      replace K5 := Lib.hid (K5.out.later bz)
      replace HB := Lib.hid (below2Z HB.out bz)
      clear bz
      have bz := bl_newZ w9 (.cells #[.int .i64 x2, .int .i64 y2] 54)
      replace K0 := Lib.hid (K0.out.later bz)
      replace K1 := Lib.hid (K1.out.later bz)
      replace KN := Lib.hid (KN.out.later bz)
      replace K4 := Lib.hid (K4.out.later bz)
      replace K5 := Lib.hid (K5.out.later bz)
      replace HB := Lib.hid (below2Z HB.out bz)
      have K6 := Lib.hid (cellsAt_made (w := w9) (cs := #[.int .i64 x2, .int .i64 y2]) (vs := [.int .i64 x2, .int .i64 y2]) (by rfl) 54 rfl)
      clear bz
      obtain ⟨K5_0, K5_1⟩ := cells2P K5.out
      obtain ⟨K6_0, K6_1⟩ := cells2P K6.out
      go_wp2_with fail
      generalize hW : w9.alloc (.cells #[.int .i64 x2, .int .i64 y2] 54) = w10 at HB K0 K1 KN K4 K5 K6 K5_0 K5_1 K6_0 K6_1 ⊢
      clear hW
      refine (live16 _).mono ?_
      rintro e w11 ⟨rfl, bz⟩
      clear K5_0 K5_1 K6_0 K6_1
      replace K0 := Lib.hid (K0.out.later bz)
      replace K1 := Lib.hid (K1.out.later bz)
      replace KN := Lib.hid (KN.out.later bz)
      replace K4 := Lib.hid (K4.out.later bz)
      replace K5 := Lib.hid (K5.out.later bz)
      replace K6 := Lib.hid (K6.out.later bz)
      replace HB := Lib.hid (below2Z HB.out bz)
      clear bz
      go_wp2_with fail
      go_ret
      exact ⟨rfl, HB.out⟩
    · skip
      have t5 : (x != 0) = false := by simp [p7 rfl]
      have t6 : decide (n0 ≤ n1) = false := by simpa using hle
      clear hT hL hL1 hT2 p1 p2 p3 p4 p5 p6 p7 p8 p9 h1 h2 h3 hm m2 hle
      go_enter Try.func11, Try.ntmps11
      go_wp2_with fail
      refine (O1.out _).mono ?_
      rintro e w1 ⟨rfl, bz⟩
      replace K0 := Lib.hid (K0.out.later bz)
      replace K1 := Lib.hid (K1.out.later bz)
      replace KN := Lib.hid (KN.out.later bz)
      replace HB := Lib.hid (below2Z HB.out bz)
      clear bz
      obtain ⟨K0_0, K0_1, K0_2, K0_3⟩ := cells4P K0.out
      obtain ⟨K1_0, K1_1⟩ := cells2P K1.out
      obtain ⟨KN_0, KN_1⟩ := cells2P KN.out
      go_wp2_with fail
      refine (TM0.out _).mono ?_
      rintro e w2 ⟨rfl, rfl⟩
      go_wp2_with fail
      refine (TM1.out _).mono ?_
      rintro e w2 ⟨rfl, rfl⟩
      go_wp2_with fail
      refine (T1.out _).mono ?_
      rintro e w2 ⟨rfl, bz⟩
      clear K0_0 K0_1 K0_2 K0_3 K1_0 K1_1 KN_0 KN_1
      replace K0 := Lib.hid (K0.out.later bz)
      replace K1 := Lib.hid (K1.out.later bz)
      replace KN := Lib.hid (KN.out.later bz)
      replace HB := Lib.hid (below2Z HB.out bz)
      clear bz
      have bz := bl_newZ w2 (.cells #[.int .i64 x, .int .i64 y] 54)
      replace K0 := Lib.hid (K0.out.later bz)
      replace K1 := Lib.hid (K1.out.later bz)
      replace KN := Lib.hid (KN.out.later bz)
      replace HB := Lib.hid (below2Z HB.out bz)
      have K4 := Lib.hid (cellsAt_made (w := w2) (cs := #[.int .i64 x, .int .i64 y]) (vs := [.int .i64 x, .int .i64 y]) (by rfl) 54 rfl)
      clear bz
      obtain ⟨K0_0, K0_1, K0_2, K0_3⟩ := cells4P K0.out
      obtain ⟨K1_0, K1_1⟩ := cells2P K1.out
      obtain ⟨KN_0, KN_1⟩ := cells2P KN.out
      go_wp2_with fail
      generalize hW : w2.alloc (.cells #[.int .i64 x, .int .i64 y] 54) = w3 at HB K0 K1 KN K4 K0_0 K0_1 K0_2 K0_3 K1_0 K1_1 KN_0 KN_1 ⊢
      clear hW
      refine (LV.out _).mono ?_
      rintro e w4 ⟨rfl, bz⟩
      clear K0_0 K0_1 K0_2 K0_3 K1_0 K1_1 KN_0 KN_1
      replace K0 := Lib.hid (K0.out.later bz)
      replace K1 := Lib.hid (K1.out.later bz)
      replace KN := Lib.hid (KN.out.later bz)
      replace K4 := Lib.hid (K4.out.later bz)
      replace HB := Lib.hid (below2Z HB.out bz)
      clear bz
      obtain ⟨K0_0, K0_1, K0_2, K0_3⟩ := cells4P K0.out
      obtain ⟨K1_0, K1_1⟩ := cells2P K1.out
      obtain ⟨KN_0, KN_1⟩ := cells2P KN.out
      obtain ⟨K4_0, K4_1⟩ := cells2P K4.out
      go_wp2_with fail
      refine (O2.out _).mono ?_
      rintro e w5 ⟨rfl, bz⟩
      clear K0_0 K0_1 K0_2 K0_3 K1_0 K1_1 KN_0 KN_1 K4_0 K4_1
      replace K0 := Lib.hid (K0.out.later bz)
      replace K1 := Lib.hid (K1.out.later bz)
      replace KN := Lib.hid (KN.out.later bz)
      replace K4 := Lib.hid (K4.out.later bz)
      replace HB := Lib.hid (below2Z HB.out bz)
      clear bz
      obtain ⟨K0_0, K0_1, K0_2, K0_3⟩ := cells4P K0.out
      obtain ⟨K1_0, K1_1⟩ := cells2P K1.out
      obtain ⟨KN_0, KN_1⟩ := cells2P KN.out
      obtain ⟨K4_0, K4_1⟩ := cells2P K4.out
      go_wp2_with fail
      refine (T2.out _).mono ?_
      rintro e w6 ⟨rfl, bz⟩
      clear K0_0 K0_1 K0_2 K0_3 K1_0 K1_1 KN_0 KN_1 K4_0 K4_1
      replace K0 := Lib.hid (K0.out.later bz)
      replace K1 := Lib.hid (K1.out.later bz)
      replace KN := Lib.hid (KN.out.later bz)
      replace K4 := Lib.hid (K4.out.later bz)
      replace HB := Lib.hid (below2Z HB.out bz)
      clear bz
      have bz := bl_newZ w6 (.cells #[.int .i64 x2, .int .i64 y2] 54)
      replace K0 := Lib.hid (K0.out.later bz)
      replace K1 := Lib.hid (K1.out.later bz)
      replace KN := Lib.hid (KN.out.later bz)
      replace K4 := Lib.hid (K4.out.later bz)
      replace HB := Lib.hid (below2Z HB.out bz)
      have K5 := Lib.hid (cellsAt_made (w := w6) (cs := #[.int .i64 x2, .int .i64 y2]) (vs := [.int .i64 x2, .int .i64 y2]) (by rfl) 54 rfl)
      clear bz
      obtain ⟨K0_0, K0_1, K0_2, K0_3⟩ := cells4P K0.out
      obtain ⟨K1_0, K1_1⟩ := cells2P K1.out
      obtain ⟨KN_0, KN_1⟩ := cells2P KN.out
      go_wp2_with fail
      generalize hW : w6.alloc (.cells #[.int .i64 x2, .int .i64 y2] 54) = w7 at HB K0 K1 KN K4 K5 K0_0 K0_1 K0_2 K0_3 K1_0 K1_1 KN_0 KN_1 ⊢
      clear hW
      refine (T3.out _).mono ?_
      rintro e w8 ⟨rfl, bz⟩
      clear K0_0 K0_1 K0_2 K0_3 K1_0 K1_1 KN_0 KN_1
      replace K0 := Lib.hid (K0.out.later bz)
      replace K1 := Lib.hid (K1.out.later bz)
      replace KN := Lib.hid (KN.out.later bz)
      replace K4 := Lib.hid (K4.out.later bz)
      replace K5 := Lib.hid (K5.out.later bz)
      replace HB := Lib.hid (below2Z HB.out bz)
      clear bz
      have bz := bl_newZ w8 (.cells #[.int .i64 x2, .int .i64 y2] 54)
      replace K0 := Lib.hid (K0.out.later bz)
      replace K1 := Lib.hid (K1.out.later bz)
      replace KN := Lib.hid (KN.out.later bz)
      replace K4 := Lib.hid (K4.out.later bz)
      replace K5 := Lib.hid (K5.out.later bz)
      replace HB := Lib.hid (below2Z HB.out bz)
      have K6 := Lib.hid (cellsAt_made (w := w8) (cs := #[.int .i64 x2, .int .i64 y2]) (vs := [.int .i64 x2, .int .i64 y2]) (by rfl) 54 rfl)
      clear bz
      obtain ⟨K5_0, K5_1⟩ := cells2P K5.out
      obtain ⟨K6_0, K6_1⟩ := cells2P K6.out
      go_wp2_with fail
      generalize hW : w8.alloc (.cells #[.int .i64 x2, .int .i64 y2] 54) = w9 at HB K0 K1 KN K4 K5 K6 K5_0 K5_1 K6_0 K6_1 ⊢
      clear hW
      refine (live16 _).mono ?_
      rintro e w10 ⟨rfl, bz⟩
      clear K5_0 K5_1 K6_0 K6_1
      replace K0 := Lib.hid (K0.out.later bz)
      replace K1 := Lib.hid (K1.out.later bz)
      replace KN := Lib.hid (KN.out.later bz)
      replace K4 := Lib.hid (K4.out.later bz)
      replace K5 := Lib.hid (K5.out.later bz)
      replace K6 := Lib.hid (K6.out.later bz)
      replace HB := Lib.hid (below2Z HB.out bz)
      clear bz
      go_wp2_with fail
      go_ret
      exact ⟨rfl, HB.out⟩

theorem twoP {α : Type} {l : List α} (h : l.length = 2) : ∃ a b, l = [a, b] := by
  match l, h with
  | [a, b], _ => exact ⟨a, b, rfl⟩

theorem walkPaceMay {w : World} (c : Cfg) (_hc : CfgFit c) (k : Bkt) (_hk : BktFit k) (zs : List Int) (hz : zs.length = 2 ∧ ∀ z ∈ zs, (Lit.int .i64 z).wf = true) :
    Calls Try.prog 11 #[.agg #[.int .i64 c.room, .int .i64 c.burst, .int .i64 c.rate, .int .i64 c.per], .agg #[.int .i64 k.tok, .int .i64 k.at'], .agg (zs.map (Value.int .i64)).toArray] w fun e w' => e = .returned (.bool true) ∧ Below w.heap.size w w' := by
  obtain ⟨n0, n1, rfl⟩ := twoP hz.1
  obtain ⟨a, b, d, e⟩ := c
  obtain ⟨tok, at'⟩ := k
  simp only [List.map_cons, List.map_nil]
  cases h1 : pcOne ⟨a, b, d, e⟩ ⟨tok, at'⟩ with
  | false => exact pmayA a b d e tok at' n0 n1 h1
  | true =>
    cases h2 : pcTime n0 with
    | false => exact pmayB a b d e tok at' n0 n1 h1 h2
    | true =>
      cases h3 : pcTime n1 with
      | false => exact pmayC a b d e tok at' n0 n1 h1 h2 h3
      | true => exact pmayD a b d e tok at' n0 n1 h1 h2 h3

end Go.Proofs.Ytnmdjkecjlpkkaa
