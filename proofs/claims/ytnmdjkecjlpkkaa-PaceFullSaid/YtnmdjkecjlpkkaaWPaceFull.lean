/-
  THE WALK OF PaceFull.
-/
import Derived.Test.YtnmdjkecjlpkkaaPacLive
import Derived.Test.YtnmdjkecjlpkkaaPacFrame
import Derived.BigQuiet
import Derived.Lib.QuietBelow
namespace Go.Proofs.Ytnmdjkecjlpkkaa
open Go.RowKit

set_option maxHeartbeats 3200000 in
set_option maxRecDepth 100000 in
theorem pfullA {w : World} (a b d e tok at' : Int) (h1 : pcOne ⟨a, b, d, e⟩ ⟨tok, at'⟩ = false) :
    Calls Try.prog 12 #[.agg #[.int .i64 a, .int .i64 b, .int .i64 d, .int .i64 e], .agg #[.int .i64 tok, .int .i64 at']] w fun e w' => e = .returned (.bool true) ∧ Below w.heap.size w w' := by
  have HB := Lib.hid (boxes_below w a b d e tok at')
  have K0 := Lib.hid (boxes_cfg w a b d e tok at')
  have K1 := Lib.hid (boxes_bkt w a b d e tok at')
  have O1 := Lib.hid (rpone_any a b d e tok at' (Lib.hid h1))
  clear h1
  go_enter Try.func12, Try.ntmps12
  go_wp2_with fail
  refine (O1.out _).mono ?_
  rintro e w1 ⟨rfl, bz⟩
  replace K0 := Lib.hid (K0.out.later bz)
  replace K1 := Lib.hid (K1.out.later bz)
  replace HB := Lib.hid (below2Z HB.out bz)
  clear bz
  obtain ⟨K0_0, K0_1, K0_2, K0_3⟩ := cells4P K0.out
  obtain ⟨K1_0, K1_1⟩ := cells2P K1.out
  go_wp2_with fail
  refine (live16 _).mono ?_
  rintro e w2 ⟨rfl, bz⟩
  clear K0_0 K0_1 K0_2 K0_3 K1_0 K1_1
  replace K0 := Lib.hid (K0.out.later bz)
  replace K1 := Lib.hid (K1.out.later bz)
  replace HB := Lib.hid (below2Z HB.out bz)
  clear bz
  go_wp2_with fail
  go_ret
  exact ⟨rfl, HB.out⟩

set_option maxHeartbeats 3200000 in
set_option maxRecDepth 100000 in
theorem pfullB {w : World} (a b d e tok at' : Int) (h1 : pcOne ⟨a, b, d, e⟩ ⟨tok, at'⟩ = true) (h2 : ¬ at' ≤ 1099511627712) :
    Calls Try.prog 12 #[.agg #[.int .i64 a, .int .i64 b, .int .i64 d, .int .i64 e], .agg #[.int .i64 tok, .int .i64 at']] w fun e w' => e = .returned (.bool true) ∧ Below w.heap.size w w' := by
  have HB := Lib.hid (boxes_below w a b d e tok at')
  have K0 := Lib.hid (boxes_cfg w a b d e tok at')
  have K1 := Lib.hid (boxes_bkt w a b d e tok at')
  have O1 := Lib.hid (rpone_any a b d e tok at' (Lib.hid h1))
  have t1 : decide (1099511627712 < at') = true := by simp; omega
  clear h2
  clear h1
  go_enter Try.func12, Try.ntmps12
  go_wp2_with fail
  refine (O1.out _).mono ?_
  rintro e w1 ⟨rfl, bz⟩
  replace K0 := Lib.hid (K0.out.later bz)
  replace K1 := Lib.hid (K1.out.later bz)
  replace HB := Lib.hid (below2Z HB.out bz)
  clear bz
  obtain ⟨K0_0, K0_1, K0_2, K0_3⟩ := cells4P K0.out
  obtain ⟨K1_0, K1_1⟩ := cells2P K1.out
  go_wp2_with fail
  refine (live16 _).mono ?_
  rintro e w2 ⟨rfl, bz⟩
  clear K0_0 K0_1 K0_2 K0_3 K1_0 K1_1
  replace K0 := Lib.hid (K0.out.later bz)
  replace K1 := Lib.hid (K1.out.later bz)
  replace HB := Lib.hid (below2Z HB.out bz)
  clear bz
  go_wp2_with fail
  go_ret
  exact ⟨rfl, HB.out⟩

set_option maxHeartbeats 3200000 in
set_option maxRecDepth 100000 in
theorem pfullC {w : World} (a b d e tok at' : Int) (h1 : pcOne ⟨a, b, d, e⟩ ⟨tok, at'⟩ = true) (h2 : at' ≤ 1099511627712) :
    Calls Try.prog 12 #[.agg #[.int .i64 a, .int .i64 b, .int .i64 d, .int .i64 e], .agg #[.int .i64 tok, .int .i64 at']] w fun e w' => e = .returned (.bool true) ∧ Below w.heap.size w w' := by
  have HB := Lib.hid (boxes_below w a b d e tok at')
  have K0 := Lib.hid (boxes_cfg w a b d e tok at')
  have K1 := Lib.hid (boxes_bkt w a b d e tok at')
  have O1 := Lib.hid (rpone_any a b d e tok at' (Lib.hid h1))
  have t1 : decide (1099511627712 < at') = false := by simp; omega
  obtain ⟨f1, f2, f3, f4, f5⟩ := pace_full h1 (by show at' ≤ _; omega)
  simp only at f1 f2 f3 f4 f5
  obtain ⟨hm, -, -, o3, -⟩ := pcOne_iff.1 h1
  obtain ⟨-, -, m1, m2, -⟩ := pcMay_iff.1 hm
  simp only at o3 m1 m2
  have w1' : IntKind.i64.wrap (at' + b) = at' + b := IntWalk.i64_in _ (by omega)
  have L1 := Lib.hid (plevel_any a b d e tok at' (at' + b) (Lib.hid f1))
  have T1 := Lib.hid (ptake_any a b d e tok at' (at' + b) (Lib.hid f2))
  have N1 := Lib.hid (pnew_any a b d e (at' + b) (Lib.hid f3))
  have T2 := Lib.hid (ptake_any a b d e b (at' + b) (at' + b) (Lib.hid f4))
  have W1 := Lib.hid (pwait_any a b d e tok at' (at' + b) (Lib.hid f5))
  have t2 : (b == b) = true := by simp
  have q1 := bkt_eql (b - 1) (at' + b) (b - 1) (at' + b) (r := true) (by simp)
  clear h1 h2 hm o3 m1 m2 f1 f2 f3 f4 f5
  go_enter Try.func12, Try.ntmps12
  go_wp2_with fail
  refine (O1.out _).mono ?_
  rintro e w1 ⟨rfl, bz⟩
  replace K0 := Lib.hid (K0.out.later bz)
  replace K1 := Lib.hid (K1.out.later bz)
  replace HB := Lib.hid (below2Z HB.out bz)
  clear bz
  obtain ⟨K0_0, K0_1, K0_2, K0_3⟩ := cells4P K0.out
  obtain ⟨K1_0, K1_1⟩ := cells2P K1.out
  go_wp2_with fail
  refine (T1.out _).mono ?_
  rintro e w2 ⟨rfl, bz⟩
  clear K0_0 K0_1 K0_2 K0_3 K1_0 K1_1
  replace K0 := Lib.hid (K0.out.later bz)
  replace K1 := Lib.hid (K1.out.later bz)
  replace HB := Lib.hid (below2Z HB.out bz)
  clear bz
  have bz := bl_newZ w2 (.cells #[.int .i64 (b - 1), .int .i64 (at' + b)] 54)
  replace K0 := Lib.hid (K0.out.later bz)
  replace K1 := Lib.hid (K1.out.later bz)
  replace HB := Lib.hid (below2Z HB.out bz)
  have K2 := Lib.hid (cellsAt_made (w := w2) (cs := #[.int .i64 (b - 1), .int .i64 (at' + b)]) (vs := [.int .i64 (b - 1), .int .i64 (at' + b)]) (by rfl) 54 rfl)
  clear bz
  obtain ⟨K0_0, K0_1, K0_2, K0_3⟩ := cells4P K0.out
  obtain ⟨K1_0, K1_1⟩ := cells2P K1.out
  go_wp2_with fail
  generalize hW : w2.alloc (.cells #[.int .i64 (b - 1), .int .i64 (at' + b)] 54) = w3 at HB K0 K1 K2 K0_0 K0_1 K0_2 K0_3 K1_0 K1_1 ⊢
  clear hW
  refine (N1.out _).mono ?_
  rintro e w4 ⟨rfl, bz⟩
  clear K0_0 K0_1 K0_2 K0_3 K1_0 K1_1
  replace K0 := Lib.hid (K0.out.later bz)
  replace K1 := Lib.hid (K1.out.later bz)
  replace K2 := Lib.hid (K2.out.later bz)
  replace HB := Lib.hid (below2Z HB.out bz)
  clear bz
  have bz := bl_newZ w4 (.cells #[.int .i64 b, .int .i64 (at' + b)] 54)
  replace K0 := Lib.hid (K0.out.later bz)
  replace K1 := Lib.hid (K1.out.later bz)
  replace K2 := Lib.hid (K2.out.later bz)
  replace HB := Lib.hid (below2Z HB.out bz)
  have K3 := Lib.hid (cellsAt_made (w := w4) (cs := #[.int .i64 b, .int .i64 (at' + b)]) (vs := [.int .i64 b, .int .i64 (at' + b)]) (by rfl) 54 rfl)
  clear bz
  obtain ⟨K0_0, K0_1, K0_2, K0_3⟩ := cells4P K0.out
  obtain ⟨K1_0, K1_1⟩ := cells2P K1.out
  obtain ⟨K3_0, K3_1⟩ := cells2P K3.out
  go_wp2_with fail
  generalize hW : w4.alloc (.cells #[.int .i64 b, .int .i64 (at' + b)] 54) = w5 at HB K0 K1 K2 K3 K0_0 K0_1 K0_2 K0_3 K1_0 K1_1 K3_0 K3_1 ⊢
  clear hW
  refine (T2.out _).mono ?_
  rintro e w6 ⟨rfl, bz⟩
  clear K0_0 K0_1 K0_2 K0_3 K1_0 K1_1 K3_0 K3_1
  replace K0 := Lib.hid (K0.out.later bz)
  replace K1 := Lib.hid (K1.out.later bz)
  replace K2 := Lib.hid (K2.out.later bz)
  replace K3 := Lib.hid (K3.out.later bz)
  replace HB := Lib.hid (below2Z HB.out bz)
  clear bz
  have bz := bl_newZ w6 (.cells #[.int .i64 (b - 1), .int .i64 (at' + b)] 54)
  replace K0 := Lib.hid (K0.out.later bz)
  replace K1 := Lib.hid (K1.out.later bz)
  replace K2 := Lib.hid (K2.out.later bz)
  replace K3 := Lib.hid (K3.out.later bz)
  replace HB := Lib.hid (below2Z HB.out bz)
  have K4 := Lib.hid (cellsAt_made (w := w6) (cs := #[.int .i64 (b - 1), .int .i64 (at' + b)]) (vs := [.int .i64 (b - 1), .int .i64 (at' + b)]) (by rfl) 54 rfl)
  clear bz
  obtain ⟨K0_0, K0_1, K0_2, K0_3⟩ := cells4P K0.out
  obtain ⟨K1_0, K1_1⟩ := cells2P K1.out
  obtain ⟨K2_0, K2_1⟩ := cells2P K2.out
  obtain ⟨K4_0, K4_1⟩ := cells2P K4.out
  go_wp2_with fail
  generalize hW : w6.alloc (.cells #[.int .i64 (b - 1), .int .i64 (at' + b)] 54) = w7 at HB K0 K1 K2 K3 K4 K0_0 K0_1 K0_2 K0_3 K1_0 K1_1 K2_0 K2_1 K4_0 K4_1 ⊢
  clear hW
  replace K0_0 := cell_regrown K0_0
  replace K0_1 := cell_regrown K0_1
  replace K0_2 := cell_regrown K0_2
  replace K0_3 := cell_regrown K0_3
  replace K1_0 := cell_regrown K1_0
  replace K1_1 := cell_regrown K1_1
  replace K2_0 := cell_regrown K2_0
  replace K2_1 := cell_regrown K2_1
  replace K4_0 := cell_regrown K4_0
  replace K4_1 := cell_regrown K4_1
  refine wp_region_quiet_below (by kernel_rfl) (by kernel_rfl) ?_
  repeat (go_big_quiet_step (first | with_reducible exact rgB L1.out _ _ _ | with_reducible exact rgB W1.out _ _ _ | with_reducible exact rgB live16 _ _ _))
  refine wpQuiet_nil ?_
  intro w30 hw30
  replace HB := Lib.hid (below2Z HB.out (regrownZ hw30))
  clear hw30 K0_0 K0_1 K0_2 K0_3 K1_0 K1_1 K2_0 K2_1 K4_0 K4_1
  go_wp2_with fail
  go_ret
  exact ⟨rfl, HB.out⟩

theorem walkPaceFull {w : World} (c : Cfg) (_hc : CfgFit c) (k : Bkt) (_hk : BktFit k) :
    Calls Try.prog 12 #[.agg #[.int .i64 c.room, .int .i64 c.burst, .int .i64 c.rate, .int .i64 c.per], .agg #[.int .i64 k.tok, .int .i64 k.at']] w fun e w' => e = .returned (.bool true) ∧ Below w.heap.size w w' := by
  obtain ⟨a, b, d, e⟩ := c
  obtain ⟨tok, at'⟩ := k
  simp only
  cases h1 : pcOne ⟨a, b, d, e⟩ ⟨tok, at'⟩ with
  | false => exact pfullA a b d e tok at' h1
  | true =>
    by_cases h2 : at' ≤ 1099511627712
    · exact pfullC a b d e tok at' h1 h2
    · exact pfullB a b d e tok at' h1 h2

end Go.Proofs.Ytnmdjkecjlpkkaa
