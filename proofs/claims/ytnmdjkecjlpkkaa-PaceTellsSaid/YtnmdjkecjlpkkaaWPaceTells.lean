/-
  THE WALK OF PaceTells.
-/
import Derived.Test.YtnmdjkecjlpkkaaPacLive
import Derived.Test.YtnmdjkecjlpkkaaPacFrame
import Derived.BigQuiet
import Derived.Lib.QuietBelow
namespace Go.Proofs.Ytnmdjkecjlpkkaa
open Go.RowKit

set_option maxHeartbeats 3200000 in
set_option maxRecDepth 100000 in
theorem walkPaceTells {w : World} (c : Cfg) (_hc : CfgFit c) (k : Bkt) (_hk : BktFit k) (now : Int) (_hn : (Lit.int .i64 now).wf = true) :
    Calls Try.prog 9 #[.agg #[.int .i64 c.room, .int .i64 c.burst, .int .i64 c.rate, .int .i64 c.per], .agg #[.int .i64 k.tok, .int .i64 k.at'], .int .i64 now] w fun e w' => e = .returned (.bool true) ∧ Below w.heap.size w w' := by
  obtain ⟨a, b, d, e⟩ := c
  obtain ⟨tok, at'⟩ := k
  simp only
  have HB := Lib.hid (boxes_below w a b d e tok at')
  have K0 := Lib.hid (boxes_cfg w a b d e tok at')
  have K1 := Lib.hid (boxes_bkt w a b d e tok at')
  obtain ⟨⟨⟨x, y⟩, n⟩, hN⟩ : ∃ r, pcNew ⟨a, b, d, e⟩ now = r := ⟨_, rfl⟩
  have N1 := Lib.hid (pnew_any a b d e now (Lib.hid hN))
  have N2 := Lib.hid (rpnew_any a b d e now (Lib.hid hN))
  obtain ⟨⟨⟨x', y'⟩, is⟩, hT⟩ : ∃ r, pcTake ⟨a, b, d, e⟩ ⟨tok, at'⟩ now = r := ⟨_, rfl⟩
  have T1 := Lib.hid (ptake_any a b d e tok at' now (Lib.hid hT))
  have T2 := Lib.hid (rptake_any a b d e tok at' now (Lib.hid hT))
  obtain ⟨m, hM⟩ : ∃ r, pcMay ⟨a, b, d, e⟩ = r := ⟨_, rfl⟩
  have M1 := Lib.hid (pmay_any a b d e (Lib.hid hM))
  have M2 := Lib.hid (rpmay_any a b d e (Lib.hid hM))
  obtain ⟨l, hL⟩ : ∃ r, pcLevel ⟨a, b, d, e⟩ ⟨tok, at'⟩ now = r := ⟨_, rfl⟩
  have L1 := Lib.hid (plevel_any a b d e tok at' now (Lib.hid hL))
  have L2 := Lib.hid (rplevel_any a b d e tok at' now (Lib.hid hL))
  obtain ⟨v, hW⟩ : ∃ r, pcWait ⟨a, b, d, e⟩ ⟨tok, at'⟩ now = r := ⟨_, rfl⟩
  have W1 := Lib.hid (pwait_any a b d e tok at' now (Lib.hid hW))
  have W2 := Lib.hid (rpwait_any a b d e tok at' now (Lib.hid hW))
  have q1 := bkt_eql x y x y (r := true) (by simp)
  have q2 := bkt_eql x' y' x' y' (r := true) (by simp)
  have t1 : (m == m) = true := by simp
  have t2 : ((n : Int) == (n : Int)) = true := by simp
  have t3 : (is == is) = true := by simp
  have t4 : (l == l) = true := by simp
  have t5 : (v == v) = true := by simp
  clear hN hT hM hL hW
  go_enter Try.func9, Try.ntmps9
  go_wp2_with fail
  refine (N1.out _).mono ?_
  rintro e w1 ⟨rfl, bz⟩
  replace K0 := Lib.hid (K0.out.later bz)
  replace K1 := Lib.hid (K1.out.later bz)
  replace HB := Lib.hid (below2Z HB.out bz)
  clear bz
  have bz := bl_newZ w1 (.cells #[.int .i64 x, .int .i64 y] 54)
  replace K0 := Lib.hid (K0.out.later bz)
  replace K1 := Lib.hid (K1.out.later bz)
  replace HB := Lib.hid (below2Z HB.out bz)
  have K2 := Lib.hid (cellsAt_made (w := w1) (cs := #[.int .i64 x, .int .i64 y]) (vs := [.int .i64 x, .int .i64 y]) (by rfl) 54 rfl)
  clear bz
  obtain ⟨K0_0, K0_1, K0_2, K0_3⟩ := cells4P K0.out
  obtain ⟨K1_0, K1_1⟩ := cells2P K1.out
  go_wp2_with fail
  generalize hW : w1.alloc (.cells #[.int .i64 x, .int .i64 y] 54) = w2 at HB K0 K1 K2 K0_0 K0_1 K0_2 K0_3 K1_0 K1_1 ⊢
  clear hW
  refine (N2.out _).mono ?_
  rintro e w3 ⟨rfl, bz⟩
  clear K0_0 K0_1 K0_2 K0_3 K1_0 K1_1
  replace K0 := Lib.hid (K0.out.later bz)
  replace K1 := Lib.hid (K1.out.later bz)
  replace K2 := Lib.hid (K2.out.later bz)
  replace HB := Lib.hid (below2Z HB.out bz)
  clear bz
  have bz := bl_newZ w3 (.cells #[.int .i64 x, .int .i64 y] 54)
  replace K0 := Lib.hid (K0.out.later bz)
  replace K1 := Lib.hid (K1.out.later bz)
  replace K2 := Lib.hid (K2.out.later bz)
  replace HB := Lib.hid (below2Z HB.out bz)
  have K3 := Lib.hid (cellsAt_made (w := w3) (cs := #[.int .i64 x, .int .i64 y]) (vs := [.int .i64 x, .int .i64 y]) (by rfl) 54 rfl)
  clear bz
  obtain ⟨K0_0, K0_1, K0_2, K0_3⟩ := cells4P K0.out
  obtain ⟨K1_0, K1_1⟩ := cells2P K1.out
  go_wp2_with fail
  generalize hW : w3.alloc (.cells #[.int .i64 x, .int .i64 y] 54) = w4 at HB K0 K1 K2 K3 K0_0 K0_1 K0_2 K0_3 K1_0 K1_1 ⊢
  clear hW
  refine (T1.out _).mono ?_
  rintro e w5 ⟨rfl, bz⟩
  clear K0_0 K0_1 K0_2 K0_3 K1_0 K1_1
  replace K0 := Lib.hid (K0.out.later bz)
  replace K1 := Lib.hid (K1.out.later bz)
  replace K2 := Lib.hid (K2.out.later bz)
  replace K3 := Lib.hid (K3.out.later bz)
  replace HB := Lib.hid (below2Z HB.out bz)
  clear bz
  have bz := bl_newZ w5 (.cells #[.int .i64 x', .int .i64 y'] 54)
  replace K0 := Lib.hid (K0.out.later bz)
  replace K1 := Lib.hid (K1.out.later bz)
  replace K2 := Lib.hid (K2.out.later bz)
  replace K3 := Lib.hid (K3.out.later bz)
  replace HB := Lib.hid (below2Z HB.out bz)
  have K4 := Lib.hid (cellsAt_made (w := w5) (cs := #[.int .i64 x', .int .i64 y']) (vs := [.int .i64 x', .int .i64 y']) (by rfl) 54 rfl)
  clear bz
  obtain ⟨K0_0, K0_1, K0_2, K0_3⟩ := cells4P K0.out
  obtain ⟨K1_0, K1_1⟩ := cells2P K1.out
  go_wp2_with fail
  generalize hW : w5.alloc (.cells #[.int .i64 x', .int .i64 y'] 54) = w6 at HB K0 K1 K2 K3 K4 K0_0 K0_1 K0_2 K0_3 K1_0 K1_1 ⊢
  clear hW
  refine (T2.out _).mono ?_
  rintro e w7 ⟨rfl, bz⟩
  clear K0_0 K0_1 K0_2 K0_3 K1_0 K1_1
  replace K0 := Lib.hid (K0.out.later bz)
  replace K1 := Lib.hid (K1.out.later bz)
  replace K2 := Lib.hid (K2.out.later bz)
  replace K3 := Lib.hid (K3.out.later bz)
  replace K4 := Lib.hid (K4.out.later bz)
  replace HB := Lib.hid (below2Z HB.out bz)
  clear bz
  have bz := bl_newZ w7 (.cells #[.int .i64 x', .int .i64 y'] 54)
  replace K0 := Lib.hid (K0.out.later bz)
  replace K1 := Lib.hid (K1.out.later bz)
  replace K2 := Lib.hid (K2.out.later bz)
  replace K3 := Lib.hid (K3.out.later bz)
  replace K4 := Lib.hid (K4.out.later bz)
  replace HB := Lib.hid (below2Z HB.out bz)
  have K5 := Lib.hid (cellsAt_made (w := w7) (cs := #[.int .i64 x', .int .i64 y']) (vs := [.int .i64 x', .int .i64 y']) (by rfl) 54 rfl)
  clear bz
  obtain ⟨K0_0, K0_1, K0_2, K0_3⟩ := cells4P K0.out
  obtain ⟨K1_0, K1_1⟩ := cells2P K1.out
  obtain ⟨K2_0, K2_1⟩ := cells2P K2.out
  obtain ⟨K3_0, K3_1⟩ := cells2P K3.out
  obtain ⟨K4_0, K4_1⟩ := cells2P K4.out
  obtain ⟨K5_0, K5_1⟩ := cells2P K5.out
  go_wp2_with fail
  generalize hW : w7.alloc (.cells #[.int .i64 x', .int .i64 y'] 54) = w8 at HB K0 K1 K2 K3 K4 K5 K0_0 K0_1 K0_2 K0_3 K1_0 K1_1 K2_0 K2_1 K3_0 K3_1 K4_0 K4_1 K5_0 K5_1 ⊢
  clear hW
  replace K0_0 := cell_regrown K0_0
  replace K0_1 := cell_regrown K0_1
  replace K0_2 := cell_regrown K0_2
  replace K0_3 := cell_regrown K0_3
  replace K1_0 := cell_regrown K1_0
  replace K1_1 := cell_regrown K1_1
  replace K2_0 := cell_regrown K2_0
  replace K2_1 := cell_regrown K2_1
  replace K3_0 := cell_regrown K3_0
  replace K3_1 := cell_regrown K3_1
  replace K4_0 := cell_regrown K4_0
  replace K4_1 := cell_regrown K4_1
  replace K5_0 := cell_regrown K5_0
  replace K5_1 := cell_regrown K5_1
  refine wp_region_quiet_below (by kernel_rfl) (by kernel_rfl) ?_
  repeat (go_big_quiet_step (first | with_reducible exact rgB M1.out _ _ _ | with_reducible exact rgB M2.out _ _ _ | with_reducible exact rgB L1.out _ _ _ | with_reducible exact rgB L2.out _ _ _ | with_reducible exact rgB W1.out _ _ _ | with_reducible exact rgB W2.out _ _ _ | with_reducible exact rgB live16 _ _ _))
  refine wpQuiet_nil ?_
  intro w30 hw30
  replace HB := Lib.hid (below2Z HB.out (regrownZ hw30))
  clear hw30 K0_0 K0_1 K0_2 K0_3 K1_0 K1_1 K2_0 K2_1 K3_0 K3_1 K4_0 K4_1 K5_0 K5_1
  go_wp2_with fail
  go_ret
  exact ⟨rfl, HB.out⟩

end Go.Proofs.Ytnmdjkecjlpkkaa
