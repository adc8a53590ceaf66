/-
  THE CONTRACT OF live OF LAYER 16's STATEMENTS: it returns true. Buckets compared.
-/
import Derived.Test.YtnmdjkecjlpkkaaPacRef
import Derived.Laws.StructEq
namespace Go.Proofs.Ytnmdjkecjlpkkaa
open Go.RowKit

theorem bkt_eqIn (d : Nat) (a b a' b' : Int) (w : World) :
    (Op.equalIn (d + 1 + 1) 54 (.agg #[.int .i64 a, .int .i64 b]) (.agg #[.int .i64 a', .int .i64 b'])).run Try.prog w = .ok (decide (a = a') && decide (b = b')) w := by
  have hS : Try.prog.underlying 54 = some (.struct (Try.prog.fieldsOf 54)) := by kernel_rfl
  have hp : Try.prog.stoodInHeld 54 = false := by kernel_rfl
  have u3 := Try.underlying3
  have a3 := Try.isAgg3
  have z3 := Try.sizeOf3
  rw [run_equalIn_agg w (d + 1) 54 _ _ hS hp]
  simp only [Program.fieldsOf, Try.underlying54]
  go_simp
  by_cases h1 : a = a' <;> by_cases h2 : b = b' <;> simp [h1, h2]

theorem bkt_eql (a b a' b' : Int) {r : Bool} (h : (decide (a = a') && decide (b = b')) = r) : ∀ w, (binOp .eql 54 (.agg #[.int .i64 a, .int .i64 b]) (.agg #[.int .i64 a', .int .i64 b'])).run Try.prog w = .ok (.bool r) w := fun w => by
  rw [run_eql_struct, show (10000 : Nat) = 9998 + 1 + 1 from rfl, bkt_eqIn 9998, h]
  rfl

set_option maxHeartbeats 3200000 in
set_option maxRecDepth 100000 in
theorem live16 (w : World) : Calls Try.prog 45 #[] w fun e w' => e = .returned (.bool true) ∧ Below w.heap.size w w' := by
  have q25 := bkt_eql 2 5 2 5 (r := true) (by decide)
  have q05 := bkt_eql 0 5 0 5 (r := true) (by decide)
  have q06 := bkt_eql 0 6 0 6 (r := true) (by decide)
  have HN := Lib.hid (pnew_any 1 2 1 1 5 (x := 2) (y := 5) (n := 0) (by show _ = _; rfl))
  have HZ := Lib.hid (pnew_any 0 0 0 0 5 (x := 0) (y := 0) (n := 1) (by show _ = _; rfl))
  have T1 := Lib.hid (ptake_any 1 2 1 1 2 5 5 (x := 1) (y := 5) (is := true) (by show _ = _; rfl))
  have T2 := Lib.hid (ptake_any 1 2 1 1 1 5 5 (x := 0) (y := 5) (is := true) (by show _ = _; rfl))
  have T3 := Lib.hid (ptake_any 1 2 1 1 0 5 5 (x := 0) (y := 5) (is := false) (by show _ = _; rfl))
  have T4 := Lib.hid (ptake_any 1 2 1 1 0 5 6 (x := 0) (y := 6) (is := true) (by show _ = _; rfl))
  have L1 := Lib.hid (plevel_any 1 2 1 1 0 5 9 (r := 2) (by show _ = _; rfl))
  have L2 := Lib.hid (plevel_any 1 2 1 1 0 5 4 (r := 0) (by show _ = _; rfl))
  have W1 := Lib.hid (pwait_any 1 2 1 1 0 5 5 (r := 1) (by show _ = _; rfl))
  have W2 := Lib.hid (pwait_any 1 2 1 1 0 5 6 (r := 0) (by show _ = _; rfl))
  have M1 := Lib.hid (pmay_any 1 2 1 1 (r := true) (by show _ = _; rfl))
  have M2 := Lib.hid (pmay_any 0 0 0 0 (r := false) (by show _ = _; rfl))
  have HB := Lib.hid (bl_newZ w (.cells #[.int .i64 1, .int .i64 2, .int .i64 1, .int .i64 1] 52))
  have K1 := Lib.hid (cellsAt_made (w := w) (cs := #[.int .i64 1, .int .i64 2, .int .i64 1, .int .i64 1]) (vs := [.int .i64 1, .int .i64 2, .int .i64 1, .int .i64 1]) rfl 52 rfl)
  go_enter Try.func45, Try.ntmps45
  go_wp2_with fail
  generalize hW : w.alloc (.cells #[.int .i64 1, .int .i64 2, .int .i64 1, .int .i64 1] 52) = w0 at HB K1 ⊢
  clear hW
  refine (HN.out _).mono ?_
  rintro e w1 ⟨rfl, bz⟩
  replace K1 := Lib.hid (K1.out.later bz)
  replace HB := Lib.hid (below2Z HB.out bz)
  clear bz
  have bz := bl_newZ w1 (.cells #[.int .i64 2, .int .i64 5] 54)
  replace K1 := Lib.hid (K1.out.later bz)
  replace HB := Lib.hid (below2Z HB.out bz)
  have K2 := Lib.hid (cellsAt_made (w := w1) (cs := #[.int .i64 2, .int .i64 5]) (vs := [.int .i64 2, .int .i64 5]) (by rfl) 54 rfl)
  clear bz
  obtain ⟨K1_0, K1_1, K1_2, K1_3⟩ := cells4P K1.out
  go_wp2_with fail
  generalize hW : w1.alloc (.cells #[.int .i64 2, .int .i64 5] 54) = w2 at HB K1 K2 K1_0 K1_1 K1_2 K1_3 ⊢
  clear hW
  refine (HZ.out _).mono ?_
  rintro e w3 ⟨rfl, bz⟩
  clear K1_0 K1_1 K1_2 K1_3
  replace K1 := Lib.hid (K1.out.later bz)
  replace K2 := Lib.hid (K2.out.later bz)
  replace HB := Lib.hid (below2Z HB.out bz)
  clear bz
  have bz := bl_newZ w3 (.cells #[.int .i64 0, .int .i64 0] 54)
  replace K1 := Lib.hid (K1.out.later bz)
  replace K2 := Lib.hid (K2.out.later bz)
  replace HB := Lib.hid (below2Z HB.out bz)
  have K3 := Lib.hid (cellsAt_made (w := w3) (cs := #[.int .i64 0, .int .i64 0]) (vs := [.int .i64 0, .int .i64 0]) (by rfl) 54 rfl)
  clear bz
  obtain ⟨K1_0, K1_1, K1_2, K1_3⟩ := cells4P K1.out
  obtain ⟨K2_0, K2_1⟩ := cells2P K2.out
  go_wp2_with fail
  generalize hW : w3.alloc (.cells #[.int .i64 0, .int .i64 0] 54) = w4 at HB K1 K2 K3 K1_0 K1_1 K1_2 K1_3 K2_0 K2_1 ⊢
  clear hW
  refine (T1.out _).mono ?_
  rintro e w5 ⟨rfl, bz⟩
  clear K1_0 K1_1 K1_2 K1_3 K2_0 K2_1
  replace K1 := Lib.hid (K1.out.later bz)
  replace K2 := Lib.hid (K2.out.later bz)
  replace K3 := Lib.hid (K3.out.later bz)
  replace HB := Lib.hid (below2Z HB.out bz)
  clear bz
  have bz := bl_newZ w5 (.cells #[.int .i64 1, .int .i64 5] 54)
  replace K1 := Lib.hid (K1.out.later bz)
  replace K2 := Lib.hid (K2.out.later bz)
  replace K3 := Lib.hid (K3.out.later bz)
  replace HB := Lib.hid (below2Z HB.out bz)
  have K4 := Lib.hid (cellsAt_made (w := w5) (cs := #[.int .i64 1, .int .i64 5]) (vs := [.int .i64 1, .int .i64 5]) (by rfl) 54 rfl)
  clear bz
  obtain ⟨K1_0, K1_1, K1_2, K1_3⟩ := cells4P K1.out
  obtain ⟨K4_0, K4_1⟩ := cells2P K4.out
  go_wp2_with fail
  generalize hW : w5.alloc (.cells #[.int .i64 1, .int .i64 5] 54) = w6 at HB K1 K2 K3 K4 K1_0 K1_1 K1_2 K1_3 K4_0 K4_1 ⊢
  clear hW
  refine (T2.out _).mono ?_
  rintro e w7 ⟨rfl, bz⟩
  clear K1_0 K1_1 K1_2 K1_3 K4_0 K4_1
  replace K1 := Lib.hid (K1.out.later bz)
  replace K2 := Lib.hid (K2.out.later bz)
  replace K3 := Lib.hid (K3.out.later bz)
  replace K4 := Lib.hid (K4.out.later bz)
  replace HB := Lib.hid (below2Z HB.out bz)
  clear bz
  have bz := bl_newZ w7 (.cells #[.int .i64 0, .int .i64 5] 54)
  replace K1 := Lib.hid (K1.out.later bz)
  replace K2 := Lib.hid (K2.out.later bz)
  replace K3 := Lib.hid (K3.out.later bz)
  replace K4 := Lib.hid (K4.out.later bz)
  replace HB := Lib.hid (below2Z HB.out bz)
  have K5 := Lib.hid (cellsAt_made (w := w7) (cs := #[.int .i64 0, .int .i64 5]) (vs := [.int .i64 0, .int .i64 5]) (by rfl) 54 rfl)
  clear bz
  obtain ⟨K1_0, K1_1, K1_2, K1_3⟩ := cells4P K1.out
  obtain ⟨K5_0, K5_1⟩ := cells2P K5.out
  go_wp2_with fail
  generalize hW : w7.alloc (.cells #[.int .i64 0, .int .i64 5] 54) = w8 at HB K1 K2 K3 K4 K5 K1_0 K1_1 K1_2 K1_3 K5_0 K5_1 ⊢
  clear hW
  refine (T3.out _).mono ?_
  rintro e w9 ⟨rfl, bz⟩
  clear K1_0 K1_1 K1_2 K1_3 K5_0 K5_1
  replace K1 := Lib.hid (K1.out.later bz)
  replace K2 := Lib.hid (K2.out.later bz)
  replace K3 := Lib.hid (K3.out.later bz)
  replace K4 := Lib.hid (K4.out.later bz)
  replace K5 := Lib.hid (K5.out.later bz)
  replace HB := Lib.hid (below2Z HB.out bz)
  clear bz
  have bz := bl_newZ w9 (.cells #[.int .i64 0, .int .i64 5] 54)
  replace K1 := Lib.hid (K1.out.later bz)
  replace K2 := Lib.hid (K2.out.later bz)
  replace K3 := Lib.hid (K3.out.later bz)
  replace K4 := Lib.hid (K4.out.later bz)
  replace K5 := Lib.hid (K5.out.later bz)
  replace HB := Lib.hid (below2Z HB.out bz)
  have K6 := Lib.hid (cellsAt_made (w := w9) (cs := #[.int .i64 0, .int .i64 5]) (vs := [.int .i64 0, .int .i64 5]) (by rfl) 54 rfl)
  clear bz
  obtain ⟨K1_0, K1_1, K1_2, K1_3⟩ := cells4P K1.out
  obtain ⟨K6_0, K6_1⟩ := cells2P K6.out
  go_wp2_with fail
  generalize hW : w9.alloc (.cells #[.int .i64 0, .int .i64 5] 54) = w10 at HB K1 K2 K3 K4 K5 K6 K1_0 K1_1 K1_2 K1_3 K6_0 K6_1 ⊢
  clear hW
  refine (T4.out _).mono ?_
  rintro e w11 ⟨rfl, bz⟩
  clear K1_0 K1_1 K1_2 K1_3 K6_0 K6_1
  replace K1 := Lib.hid (K1.out.later bz)
  replace K2 := Lib.hid (K2.out.later bz)
  replace K3 := Lib.hid (K3.out.later bz)
  replace K4 := Lib.hid (K4.out.later bz)
  replace K5 := Lib.hid (K5.out.later bz)
  replace K6 := Lib.hid (K6.out.later bz)
  replace HB := Lib.hid (below2Z HB.out bz)
  clear bz
  have bz := bl_newZ w11 (.cells #[.int .i64 0, .int .i64 6] 54)
  replace K1 := Lib.hid (K1.out.later bz)
  replace K2 := Lib.hid (K2.out.later bz)
  replace K3 := Lib.hid (K3.out.later bz)
  replace K4 := Lib.hid (K4.out.later bz)
  replace K5 := Lib.hid (K5.out.later bz)
  replace K6 := Lib.hid (K6.out.later bz)
  replace HB := Lib.hid (below2Z HB.out bz)
  have K7 := Lib.hid (cellsAt_made (w := w11) (cs := #[.int .i64 0, .int .i64 6]) (vs := [.int .i64 0, .int .i64 6]) (by rfl) 54 rfl)
  clear bz
  obtain ⟨K1_0, K1_1, K1_2, K1_3⟩ := cells4P K1.out
  obtain ⟨K2_0, K2_1⟩ := cells2P K2.out
  obtain ⟨K5_0, K5_1⟩ := cells2P K5.out
  obtain ⟨K6_0, K6_1⟩ := cells2P K6.out
  obtain ⟨K7_0, K7_1⟩ := cells2P K7.out
  go_wp2_with fail
  generalize hW : w11.alloc (.cells #[.int .i64 0, .int .i64 6] 54) = w12 at HB K1 K2 K3 K4 K5 K6 K7 K1_0 K1_1 K1_2 K1_3 K2_0 K2_1 K5_0 K5_1 K6_0 K6_1 K7_0 K7_1 ⊢
  clear hW
  refine (L1.out _).mono ?_
  rintro e w13 ⟨rfl, bz⟩
  clear K1_0 K1_1 K1_2 K1_3 K2_0 K2_1 K5_0 K5_1 K6_0 K6_1 K7_0 K7_1
  replace K1 := Lib.hid (K1.out.later bz)
  replace K2 := Lib.hid (K2.out.later bz)
  replace K3 := Lib.hid (K3.out.later bz)
  replace K4 := Lib.hid (K4.out.later bz)
  replace K5 := Lib.hid (K5.out.later bz)
  replace K6 := Lib.hid (K6.out.later bz)
  replace K7 := Lib.hid (K7.out.later bz)
  replace HB := Lib.hid (below2Z HB.out bz)
  clear bz
  obtain ⟨K1_0, K1_1, K1_2, K1_3⟩ := cells4P K1.out
  obtain ⟨K5_0, K5_1⟩ := cells2P K5.out
  go_wp2_with fail
  refine (L2.out _).mono ?_
  rintro e w14 ⟨rfl, bz⟩
  clear K1_0 K1_1 K1_2 K1_3 K5_0 K5_1
  replace K1 := Lib.hid (K1.out.later bz)
  replace K2 := Lib.hid (K2.out.later bz)
  replace K3 := Lib.hid (K3.out.later bz)
  replace K4 := Lib.hid (K4.out.later bz)
  replace K5 := Lib.hid (K5.out.later bz)
  replace K6 := Lib.hid (K6.out.later bz)
  replace K7 := Lib.hid (K7.out.later bz)
  replace HB := Lib.hid (below2Z HB.out bz)
  clear bz
  obtain ⟨K1_0, K1_1, K1_2, K1_3⟩ := cells4P K1.out
  obtain ⟨K5_0, K5_1⟩ := cells2P K5.out
  go_wp2_with fail
  refine (W1.out _).mono ?_
  rintro e w15 ⟨rfl, bz⟩
  clear K1_0 K1_1 K1_2 K1_3 K5_0 K5_1
  replace K1 := Lib.hid (K1.out.later bz)
  replace K2 := Lib.hid (K2.out.later bz)
  replace K3 := Lib.hid (K3.out.later bz)
  replace K4 := Lib.hid (K4.out.later bz)
  replace K5 := Lib.hid (K5.out.later bz)
  replace K6 := Lib.hid (K6.out.later bz)
  replace K7 := Lib.hid (K7.out.later bz)
  replace HB := Lib.hid (below2Z HB.out bz)
  clear bz
  obtain ⟨K1_0, K1_1, K1_2, K1_3⟩ := cells4P K1.out
  obtain ⟨K5_0, K5_1⟩ := cells2P K5.out
  go_wp2_with fail
  refine (W2.out _).mono ?_
  rintro e w16 ⟨rfl, bz⟩
  clear K1_0 K1_1 K1_2 K1_3 K5_0 K5_1
  replace K1 := Lib.hid (K1.out.later bz)
  replace K2 := Lib.hid (K2.out.later bz)
  replace K3 := Lib.hid (K3.out.later bz)
  replace K4 := Lib.hid (K4.out.later bz)
  replace K5 := Lib.hid (K5.out.later bz)
  replace K6 := Lib.hid (K6.out.later bz)
  replace K7 := Lib.hid (K7.out.later bz)
  replace HB := Lib.hid (below2Z HB.out bz)
  clear bz
  obtain ⟨K1_0, K1_1, K1_2, K1_3⟩ := cells4P K1.out
  obtain ⟨K5_0, K5_1⟩ := cells2P K5.out
  go_wp2_with fail
  refine (M1.out _).mono ?_
  rintro e w17 ⟨rfl, bz⟩
  clear K1_0 K1_1 K1_2 K1_3 K5_0 K5_1
  replace K1 := Lib.hid (K1.out.later bz)
  replace K2 := Lib.hid (K2.out.later bz)
  replace K3 := Lib.hid (K3.out.later bz)
  replace K4 := Lib.hid (K4.out.later bz)
  replace K5 := Lib.hid (K5.out.later bz)
  replace K6 := Lib.hid (K6.out.later bz)
  replace K7 := Lib.hid (K7.out.later bz)
  replace HB := Lib.hid (below2Z HB.out bz)
  clear bz
  obtain ⟨K1_0, K1_1, K1_2, K1_3⟩ := cells4P K1.out
  obtain ⟨K5_0, K5_1⟩ := cells2P K5.out
  go_wp2_with fail
  refine (M2.out _).mono ?_
  rintro e w18 ⟨rfl, bz⟩
  clear K1_0 K1_1 K1_2 K1_3 K5_0 K5_1
  replace K1 := Lib.hid (K1.out.later bz)
  replace K2 := Lib.hid (K2.out.later bz)
  replace K3 := Lib.hid (K3.out.later bz)
  replace K4 := Lib.hid (K4.out.later bz)
  replace K5 := Lib.hid (K5.out.later bz)
  replace K6 := Lib.hid (K6.out.later bz)
  replace K7 := Lib.hid (K7.out.later bz)
  replace HB := Lib.hid (below2Z HB.out bz)
  clear bz
  obtain ⟨K1_0, K1_1, K1_2, K1_3⟩ := cells4P K1.out
  obtain ⟨K5_0, K5_1⟩ := cells2P K5.out
  go_wp2_with fail
  clear K1_0 K1_1 K1_2 K1_3 K5_0 K5_1
  go_ret
  exact ⟨rfl, HB.out⟩

end Go.Proofs.Ytnmdjkecjlpkkaa
