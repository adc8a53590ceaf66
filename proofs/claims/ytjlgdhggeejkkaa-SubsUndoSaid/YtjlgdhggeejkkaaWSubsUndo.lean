/-
  THE WALK OF SubsUndo.
-/
import Derived.Test.YtjlgdhggeejkkaaSubLive
namespace Go.Proofs.Ytjlgdhggeejkkaa
open Go.RowKit

set_option maxHeartbeats 3200000 in
set_option maxRecDepth 100000 in
theorem undo_err {w : World} (a1 a2 a3 a4 a5 b1 b2 b3 b4 b5 : Bool) {er : Nat} (k : Int) (hk : (Lit.int .i64 k).wf = true) (h : Hid (suAct ⟨a1, a2, a3, a4, a5⟩ ⟨b1, b2, b3, b4, b5⟩ k = (⟨a1, a2, a3, a4, a5⟩, ⟨b1, b2, b3, b4, b5⟩, er))) (he : er ≠ 0) :
    Calls Try.prog 6 #[.agg #[.bool a1, .bool a2, .bool a3, .bool a4, .bool a5], .agg #[.bool b1, .bool b2, .bool b3, .bool b4, .bool b5], .int .i64 k] w fun e w' => e = .returned (.bool true) ∧ Below w.heap.size w w' := by
  have t1 : ((er : Int) != 0) = true := by rw [bne_iff_ne]; omega
  clear he
  have q1 : ∀ w, (binOp .eql 23 (.agg #[.bool a1, .bool a2, .bool a3, .bool a4, .bool a5]) (.agg #[.bool a1, .bool a2, .bool a3, .bool a4, .bool a5])).run Try.prog w = .ok (.bool true) w := fun w => (item_eql a1 a2 a3 a4 a5 a1 a2 a3 a4 a5 w).trans (by rw [itSame_self])
  have q2 : ∀ w, (binOp .eql 23 (.agg #[.bool b1, .bool b2, .bool b3, .bool b4, .bool b5]) (.agg #[.bool b1, .bool b2, .bool b3, .bool b4, .bool b5])).run Try.prog w = .ok (.bool true) w := fun w => (item_eql b1 b2 b3 b4 b5 b1 b2 b3 b4 b5 w).trans (by rw [itSame_self])
  have hgd : Try.prog.eqGuardType Try.prog.depth 23 = false := by kernel_rfl
  have T := twoAt w ⟨a1, a2, a3, a4, a5⟩ ⟨b1, b2, b3, b4, b5⟩ 23 23
  have A := Lib.hid T.1
  have B := Lib.hid T.2
  have B0 : Hid (Below w.heap.size w ((w.alloc (.cells #[.bool a1, .bool a2, .bool a3, .bool a4, .bool a5] 23)).alloc (.cells #[.bool b1, .bool b2, .bool b3, .bool b4, .bool b5] 23))) := Lib.hid (((Below.refl _ _).alloc (Nat.le_refl _) _).alloc (by simp) _)
  clear T
  go_enter Try.func6, Try.ntmps6
  go_wp2_with fail
  refine (sact_eq (a := ⟨a1, a2, a3, a4, a5⟩) (b := ⟨b1, b2, b3, b4, b5⟩) (x := ⟨a1, a2, a3, a4, a5⟩) (y := ⟨b1, b2, b3, b4, b5⟩) hk h _).mono ?_
  rintro e w1 ⟨rfl, b⟩
  have b' := bl_allocS (bl_allocS b (.cells #[.bool a1, .bool a2, .bool a3, .bool a4, .bool a5] 23)) (.cells #[.bool b1, .bool b2, .bool b3, .bool b4, .bool b5] 23)
  have B1 := Lib.hid (below2S B0.out b')
  replace A := Lib.hid (A.out.later b')
  replace B := Lib.hid (B.out.later b')
  have N := twoAt w1 ⟨a1, a2, a3, a4, a5⟩ ⟨b1, b2, b3, b4, b5⟩ 23 23
  have X := Lib.hid N.1
  have Y := Lib.hid N.2
  clear N
  clear b b' B0
  obtain ⟨ac0, ac1, ac2, ac3, ac4⟩ := A.out
  simp only at ac0 ac1 ac2 ac3 ac4
  obtain ⟨bc0, bc1, bc2, bc3, bc4⟩ := B.out
  simp only at bc0 bc1 bc2 bc3 bc4
  obtain ⟨xc0, xc1, xc2, xc3, xc4⟩ := X.out
  simp only at xc0 xc1 xc2 xc3 xc4
  obtain ⟨yc0, yc1, yc2, yc3, yc4⟩ := Y.out
  simp only at yc0 yc1 yc2 yc3 yc4
  go_wp2_with fail
  refine (live7 _).mono ?_
  rintro e w2 ⟨rfl, b⟩
  have B2 := Lib.hid (below2S B1.out b)
  clear b ac0 ac1 ac2 ac3 ac4 bc0 bc1 bc2 bc3 bc4 xc0 xc1 xc2 xc3 xc4 yc0 yc1 yc2 yc3 yc4
  go_wp2_with fail
  go_ret
  exact ⟨rfl, B2.out⟩

set_option maxHeartbeats 3200000 in
set_option maxRecDepth 100000 in
theorem undo_1 {w : World} (a1 a2 a3 a4 a5 b1 b2 b3 b4 b5 : Bool) {x1 x2 x3 x4 x5 y1 y2 y3 y4 y5 u1 u2 u3 u4 u5 v1 v2 v3 v4 v5 : Bool} {e2 : Nat} (h : Hid (suAct ⟨a1, a2, a3, a4, a5⟩ ⟨b1, b2, b3, b4, b5⟩ 1 = (⟨x1, x2, x3, x4, x5⟩, ⟨y1, y2, y3, y4, y5⟩, 0))) (h2 : Hid (suAct ⟨x1, x2, x3, x4, x5⟩ ⟨y1, y2, y3, y4, y5⟩ 1 = (⟨u1, u2, u3, u4, u5⟩, ⟨v1, v2, v3, v4, v5⟩, e2))) (he : e2 ≠ 0) :
    Calls Try.prog 6 #[.agg #[.bool a1, .bool a2, .bool a3, .bool a4, .bool a5], .agg #[.bool b1, .bool b2, .bool b3, .bool b4, .bool b5], .int .i64 1] w fun e w' => e = .returned (.bool true) ∧ Below w.heap.size w w' := by
  have t1 : ((e2 : Int) == 0) = false := by rw [beq_eq_false_iff_ne]; omega
  clear he
  have hgd : Try.prog.eqGuardType Try.prog.depth 23 = false := by kernel_rfl
  have T := twoAt w ⟨a1, a2, a3, a4, a5⟩ ⟨b1, b2, b3, b4, b5⟩ 23 23
  have A := Lib.hid T.1
  have B := Lib.hid T.2
  have B0 : Hid (Below w.heap.size w ((w.alloc (.cells #[.bool a1, .bool a2, .bool a3, .bool a4, .bool a5] 23)).alloc (.cells #[.bool b1, .bool b2, .bool b3, .bool b4, .bool b5] 23))) := Lib.hid (((Below.refl _ _).alloc (Nat.le_refl _) _).alloc (by simp) _)
  clear T
  go_enter Try.func6, Try.ntmps6
  go_wp2_with fail
  refine (sact_eq (a := ⟨a1, a2, a3, a4, a5⟩) (b := ⟨b1, b2, b3, b4, b5⟩) (x := ⟨x1, x2, x3, x4, x5⟩) (y := ⟨y1, y2, y3, y4, y5⟩) (by decide) h _).mono ?_
  rintro e w1 ⟨rfl, b⟩
  have b' := bl_allocS (bl_allocS b (.cells #[.bool x1, .bool x2, .bool x3, .bool x4, .bool x5] 23)) (.cells #[.bool y1, .bool y2, .bool y3, .bool y4, .bool y5] 23)
  have B1 := Lib.hid (below2S B0.out b')
  replace A := Lib.hid (A.out.later b')
  replace B := Lib.hid (B.out.later b')
  have N := twoAt w1 ⟨x1, x2, x3, x4, x5⟩ ⟨y1, y2, y3, y4, y5⟩ 23 23
  have X := Lib.hid N.1
  have Y := Lib.hid N.2
  clear N
  clear b b' B0
  obtain ⟨xc0, xc1, xc2, xc3, xc4⟩ := X.out
  simp only at xc0 xc1 xc2 xc3 xc4
  obtain ⟨yc0, yc1, yc2, yc3, yc4⟩ := Y.out
  simp only at yc0 yc1 yc2 yc3 yc4
  go_wp2_with fail
  refine (sact_eq (a := ⟨x1, x2, x3, x4, x5⟩) (b := ⟨y1, y2, y3, y4, y5⟩) (x := ⟨u1, u2, u3, u4, u5⟩) (y := ⟨v1, v2, v3, v4, v5⟩) (by decide) h2 _).mono ?_
  rintro e w2 ⟨rfl, b⟩
  have b' := bl_allocS (bl_allocS b (.cells #[.bool u1, .bool u2, .bool u3, .bool u4, .bool u5] 23)) (.cells #[.bool v1, .bool v2, .bool v3, .bool v4, .bool v5] 23)
  have B2 := Lib.hid (below2S B1.out b')
  replace A := Lib.hid (A.out.later b')
  replace B := Lib.hid (B.out.later b')
  replace X := Lib.hid (X.out.later b')
  replace Y := Lib.hid (Y.out.later b')
  clear b b' B1
  clear xc0 xc1 xc2 xc3 xc4 yc0 yc1 yc2 yc3 yc4
  obtain ⟨xc0, xc1, xc2, xc3, xc4⟩ := X.out
  simp only at xc0 xc1 xc2 xc3 xc4
  obtain ⟨yc0, yc1, yc2, yc3, yc4⟩ := Y.out
  simp only at yc0 yc1 yc2 yc3 yc4
  obtain ⟨ac0, ac1, ac2, ac3, ac4⟩ := A.out
  simp only at ac0 ac1 ac2 ac3 ac4
  obtain ⟨bc0, bc1, bc2, bc3, bc4⟩ := B.out
  simp only at bc0 bc1 bc2 bc3 bc4
  go_wp2_with fail
  refine (live7 _).mono ?_
  rintro e w3 ⟨rfl, b⟩
  have B3 := Lib.hid (below2S B2.out b)
  clear b xc0 xc1 xc2 xc3 xc4 yc0 yc1 yc2 yc3 yc4 ac0 ac1 ac2 ac3 ac4 bc0 bc1 bc2 bc3 bc4
  go_wp2_with fail
  go_ret
  exact ⟨rfl, B3.out⟩

set_option maxHeartbeats 3200000 in
set_option maxRecDepth 100000 in
theorem undo_2 {w : World} (a1 a2 a3 a4 a5 b1 b2 b3 b4 b5 : Bool) {x1 x2 x3 x4 x5 y1 y2 y3 y4 y5 u1 u2 u3 u4 u5 v1 v2 v3 v4 v5 : Bool} {e2 : Nat} (h : Hid (suAct ⟨a1, a2, a3, a4, a5⟩ ⟨b1, b2, b3, b4, b5⟩ 2 = (⟨x1, x2, x3, x4, x5⟩, ⟨y1, y2, y3, y4, y5⟩, 0))) (h2 : Hid (suAct ⟨x1, x2, x3, x4, x5⟩ ⟨y1, y2, y3, y4, y5⟩ 2 = (⟨u1, u2, u3, u4, u5⟩, ⟨v1, v2, v3, v4, v5⟩, e2))) (he : e2 ≠ 0) :
    Calls Try.prog 6 #[.agg #[.bool a1, .bool a2, .bool a3, .bool a4, .bool a5], .agg #[.bool b1, .bool b2, .bool b3, .bool b4, .bool b5], .int .i64 2] w fun e w' => e = .returned (.bool true) ∧ Below w.heap.size w w' := by
  have t1 : ((e2 : Int) == 0) = false := by rw [beq_eq_false_iff_ne]; omega
  clear he
  have hgd : Try.prog.eqGuardType Try.prog.depth 23 = false := by kernel_rfl
  have T := twoAt w ⟨a1, a2, a3, a4, a5⟩ ⟨b1, b2, b3, b4, b5⟩ 23 23
  have A := Lib.hid T.1
  have B := Lib.hid T.2
  have B0 : Hid (Below w.heap.size w ((w.alloc (.cells #[.bool a1, .bool a2, .bool a3, .bool a4, .bool a5] 23)).alloc (.cells #[.bool b1, .bool b2, .bool b3, .bool b4, .bool b5] 23))) := Lib.hid (((Below.refl _ _).alloc (Nat.le_refl _) _).alloc (by simp) _)
  clear T
  go_enter Try.func6, Try.ntmps6
  go_wp2_with fail
  refine (sact_eq (a := ⟨a1, a2, a3, a4, a5⟩) (b := ⟨b1, b2, b3, b4, b5⟩) (x := ⟨x1, x2, x3, x4, x5⟩) (y := ⟨y1, y2, y3, y4, y5⟩) (by decide) h _).mono ?_
  rintro e w1 ⟨rfl, b⟩
  have b' := bl_allocS (bl_allocS b (.cells #[.bool x1, .bool x2, .bool x3, .bool x4, .bool x5] 23)) (.cells #[.bool y1, .bool y2, .bool y3, .bool y4, .bool y5] 23)
  have B1 := Lib.hid (below2S B0.out b')
  replace A := Lib.hid (A.out.later b')
  replace B := Lib.hid (B.out.later b')
  have N := twoAt w1 ⟨x1, x2, x3, x4, x5⟩ ⟨y1, y2, y3, y4, y5⟩ 23 23
  have X := Lib.hid N.1
  have Y := Lib.hid N.2
  clear N
  clear b b' B0
  obtain ⟨xc0, xc1, xc2, xc3, xc4⟩ := X.out
  simp only at xc0 xc1 xc2 xc3 xc4
  obtain ⟨yc0, yc1, yc2, yc3, yc4⟩ := Y.out
  simp only at yc0 yc1 yc2 yc3 yc4
  go_wp2_with fail
  refine (sact_eq (a := ⟨x1, x2, x3, x4, x5⟩) (b := ⟨y1, y2, y3, y4, y5⟩) (x := ⟨u1, u2, u3, u4, u5⟩) (y := ⟨v1, v2, v3, v4, v5⟩) (by decide) h2 _).mono ?_
  rintro e w2 ⟨rfl, b⟩
  have b' := bl_allocS (bl_allocS b (.cells #[.bool u1, .bool u2, .bool u3, .bool u4, .bool u5] 23)) (.cells #[.bool v1, .bool v2, .bool v3, .bool v4, .bool v5] 23)
  have B2 := Lib.hid (below2S B1.out b')
  replace A := Lib.hid (A.out.later b')
  replace B := Lib.hid (B.out.later b')
  replace X := Lib.hid (X.out.later b')
  replace Y := Lib.hid (Y.out.later b')
  clear b b' B1
  clear xc0 xc1 xc2 xc3 xc4 yc0 yc1 yc2 yc3 yc4
  obtain ⟨xc0, xc1, xc2, xc3, xc4⟩ := X.out
  simp only at xc0 xc1 xc2 xc3 xc4
  obtain ⟨yc0, yc1, yc2, yc3, yc4⟩ := Y.out
  simp only at yc0 yc1 yc2 yc3 yc4
  obtain ⟨ac0, ac1, ac2, ac3, ac4⟩ := A.out
  simp only at ac0 ac1 ac2 ac3 ac4
  obtain ⟨bc0, bc1, bc2, bc3, bc4⟩ := B.out
  simp only at bc0 bc1 bc2 bc3 bc4
  go_wp2_with fail
  refine (live7 _).mono ?_
  rintro e w3 ⟨rfl, b⟩
  have B3 := Lib.hid (below2S B2.out b)
  clear b xc0 xc1 xc2 xc3 xc4 yc0 yc1 yc2 yc3 yc4 ac0 ac1 ac2 ac3 ac4 bc0 bc1 bc2 bc3 bc4
  go_wp2_with fail
  go_ret
  exact ⟨rfl, B3.out⟩

set_option maxHeartbeats 3200000 in
set_option maxRecDepth 100000 in
theorem undo_3 {w : World} (a1 a2 a3 a4 a5 b1 b2 b3 b4 b5 : Bool) {x1 x2 x3 x4 x5 y1 y2 y3 y4 y5 u1 u2 u3 u4 u5 v1 v2 v3 v4 v5 : Bool} {e2 : Nat} (h : Hid (suAct ⟨a1, a2, a3, a4, a5⟩ ⟨b1, b2, b3, b4, b5⟩ 3 = (⟨x1, x2, x3, x4, x5⟩, ⟨y1, y2, y3, y4, y5⟩, 0))) (h2 : Hid (suAct ⟨x1, x2, x3, x4, x5⟩ ⟨y1, y2, y3, y4, y5⟩ 3 = (⟨u1, u2, u3, u4, u5⟩, ⟨v1, v2, v3, v4, v5⟩, e2))) (he : e2 ≠ 0) (h3 : Hid (suAct ⟨b1, b2, b3, b4, b5⟩ ⟨a1, a2, a3, a4, a5⟩ 4 = (⟨y1, y2, y3, y4, y5⟩, ⟨x1, x2, x3, x4, x5⟩, 0))) :
    Calls Try.prog 6 #[.agg #[.bool a1, .bool a2, .bool a3, .bool a4, .bool a5], .agg #[.bool b1, .bool b2, .bool b3, .bool b4, .bool b5], .int .i64 3] w fun e w' => e = .returned (.bool true) ∧ Below w.heap.size w w' := by
  have t1 : ((e2 : Int) == 0) = false := by rw [beq_eq_false_iff_ne]; omega
  clear he
  have q1 : ∀ w, (binOp .eql 23 (.agg #[.bool y1, .bool y2, .bool y3, .bool y4, .bool y5]) (.agg #[.bool y1, .bool y2, .bool y3, .bool y4, .bool y5])).run Try.prog w = .ok (.bool true) w := fun w => (item_eql y1 y2 y3 y4 y5 y1 y2 y3 y4 y5 w).trans (by rw [itSame_self])
  have q2 : ∀ w, (binOp .eql 23 (.agg #[.bool x1, .bool x2, .bool x3, .bool x4, .bool x5]) (.agg #[.bool x1, .bool x2, .bool x3, .bool x4, .bool x5])).run Try.prog w = .ok (.bool true) w := fun w => (item_eql x1 x2 x3 x4 x5 x1 x2 x3 x4 x5 w).trans (by rw [itSame_self])
  have hgd : Try.prog.eqGuardType Try.prog.depth 23 = false := by kernel_rfl
  have T := twoAt w ⟨a1, a2, a3, a4, a5⟩ ⟨b1, b2, b3, b4, b5⟩ 23 23
  have A := Lib.hid T.1
  have B := Lib.hid T.2
  have B0 : Hid (Below w.heap.size w ((w.alloc (.cells #[.bool a1, .bool a2, .bool a3, .bool a4, .bool a5] 23)).alloc (.cells #[.bool b1, .bool b2, .bool b3, .bool b4, .bool b5] 23))) := Lib.hid (((Below.refl _ _).alloc (Nat.le_refl _) _).alloc (by simp) _)
  clear T
  go_enter Try.func6, Try.ntmps6
  go_wp2_with fail
  refine (sact_eq (a := ⟨a1, a2, a3, a4, a5⟩) (b := ⟨b1, b2, b3, b4, b5⟩) (x := ⟨x1, x2, x3, x4, x5⟩) (y := ⟨y1, y2, y3, y4, y5⟩) (by decide) h _).mono ?_
  rintro e w1 ⟨rfl, b⟩
  have b' := bl_allocS (bl_allocS b (.cells #[.bool x1, .bool x2, .bool x3, .bool x4, .bool x5] 23)) (.cells #[.bool y1, .bool y2, .bool y3, .bool y4, .bool y5] 23)
  have B1 := Lib.hid (below2S B0.out b')
  replace A := Lib.hid (A.out.later b')
  replace B := Lib.hid (B.out.later b')
  have N := twoAt w1 ⟨x1, x2, x3, x4, x5⟩ ⟨y1, y2, y3, y4, y5⟩ 23 23
  have X := Lib.hid N.1
  have Y := Lib.hid N.2
  clear N
  clear b b' B0
  obtain ⟨xc0, xc1, xc2, xc3, xc4⟩ := X.out
  simp only at xc0 xc1 xc2 xc3 xc4
  obtain ⟨yc0, yc1, yc2, yc3, yc4⟩ := Y.out
  simp only at yc0 yc1 yc2 yc3 yc4
  go_wp2_with fail
  refine (sact_eq (a := ⟨x1, x2, x3, x4, x5⟩) (b := ⟨y1, y2, y3, y4, y5⟩) (x := ⟨u1, u2, u3, u4, u5⟩) (y := ⟨v1, v2, v3, v4, v5⟩) (by decide) h2 _).mono ?_
  rintro e w2 ⟨rfl, b⟩
  have b' := bl_allocS (bl_allocS b (.cells #[.bool u1, .bool u2, .bool u3, .bool u4, .bool u5] 23)) (.cells #[.bool v1, .bool v2, .bool v3, .bool v4, .bool v5] 23)
  have B2 := Lib.hid (below2S B1.out b')
  replace A := Lib.hid (A.out.later b')
  replace B := Lib.hid (B.out.later b')
  replace X := Lib.hid (X.out.later b')
  replace Y := Lib.hid (Y.out.later b')
  clear b b' B1
  clear xc0 xc1 xc2 xc3 xc4 yc0 yc1 yc2 yc3 yc4
  obtain ⟨xc0, xc1, xc2, xc3, xc4⟩ := X.out
  simp only at xc0 xc1 xc2 xc3 xc4
  obtain ⟨yc0, yc1, yc2, yc3, yc4⟩ := Y.out
  simp only at yc0 yc1 yc2 yc3 yc4
  obtain ⟨ac0, ac1, ac2, ac3, ac4⟩ := A.out
  simp only at ac0 ac1 ac2 ac3 ac4
  obtain ⟨bc0, bc1, bc2, bc3, bc4⟩ := B.out
  simp only at bc0 bc1 bc2 bc3 bc4
  go_wp2_with fail
  refine (sact_eq (a := ⟨b1, b2, b3, b4, b5⟩) (b := ⟨a1, a2, a3, a4, a5⟩) (x := ⟨y1, y2, y3, y4, y5⟩) (y := ⟨x1, x2, x3, x4, x5⟩) (by decide) h3 _).mono ?_
  rintro e w3 ⟨rfl, b⟩
  have b' := bl_allocS (bl_allocS b (.cells #[.bool y1, .bool y2, .bool y3, .bool y4, .bool y5] 23)) (.cells #[.bool x1, .bool x2, .bool x3, .bool x4, .bool x5] 23)
  have B3 := Lib.hid (below2S B2.out b')
  replace A := Lib.hid (A.out.later b')
  replace B := Lib.hid (B.out.later b')
  replace X := Lib.hid (X.out.later b')
  replace Y := Lib.hid (Y.out.later b')
  have N := twoAt w3 ⟨y1, y2, y3, y4, y5⟩ ⟨x1, x2, x3, x4, x5⟩ 23 23
  have R := Lib.hid N.1
  have S := Lib.hid N.2
  clear N
  clear b b' B2
  clear xc0 xc1 xc2 xc3 xc4 yc0 yc1 yc2 yc3 yc4 ac0 ac1 ac2 ac3 ac4 bc0 bc1 bc2 bc3 bc4
  obtain ⟨rc0, rc1, rc2, rc3, rc4⟩ := R.out
  simp only at rc0 rc1 rc2 rc3 rc4
  obtain ⟨sc0, sc1, sc2, sc3, sc4⟩ := S.out
  simp only at sc0 sc1 sc2 sc3 sc4
  obtain ⟨ac0, ac1, ac2, ac3, ac4⟩ := A.out
  simp only at ac0 ac1 ac2 ac3 ac4
  obtain ⟨bc0, bc1, bc2, bc3, bc4⟩ := B.out
  simp only at bc0 bc1 bc2 bc3 bc4
  obtain ⟨xc0, xc1, xc2, xc3, xc4⟩ := X.out
  simp only at xc0 xc1 xc2 xc3 xc4
  obtain ⟨yc0, yc1, yc2, yc3, yc4⟩ := Y.out
  simp only at yc0 yc1 yc2 yc3 yc4
  go_wp2_with fail
  refine (live7 _).mono ?_
  rintro e w4 ⟨rfl, b⟩
  have B4 := Lib.hid (below2S B3.out b)
  clear b rc0 rc1 rc2 rc3 rc4 sc0 sc1 sc2 sc3 sc4 ac0 ac1 ac2 ac3 ac4 bc0 bc1 bc2 bc3 bc4 xc0 xc1 xc2 xc3 xc4 yc0 yc1 yc2 yc3 yc4
  go_wp2_with fail
  go_ret
  exact ⟨rfl, B4.out⟩

set_option maxHeartbeats 3200000 in
set_option maxRecDepth 100000 in
theorem undo_4 {w : World} (a1 a2 a3 a4 a5 b1 b2 b3 b4 b5 : Bool) {x1 x2 x3 x4 x5 y1 y2 y3 y4 y5 u1 u2 u3 u4 u5 v1 v2 v3 v4 v5 : Bool} {e2 : Nat} (h : Hid (suAct ⟨a1, a2, a3, a4, a5⟩ ⟨b1, b2, b3, b4, b5⟩ 4 = (⟨x1, x2, x3, x4, x5⟩, ⟨y1, y2, y3, y4, y5⟩, 0))) (h2 : Hid (suAct ⟨x1, x2, x3, x4, x5⟩ ⟨y1, y2, y3, y4, y5⟩ 4 = (⟨u1, u2, u3, u4, u5⟩, ⟨v1, v2, v3, v4, v5⟩, e2))) (he : e2 ≠ 0) (h3 : Hid (suAct ⟨b1, b2, b3, b4, b5⟩ ⟨a1, a2, a3, a4, a5⟩ 3 = (⟨y1, y2, y3, y4, y5⟩, ⟨x1, x2, x3, x4, x5⟩, 0))) :
    Calls Try.prog 6 #[.agg #[.bool a1, .bool a2, .bool a3, .bool a4, .bool a5], .agg #[.bool b1, .bool b2, .bool b3, .bool b4, .bool b5], .int .i64 4] w fun e w' => e = .returned (.bool true) ∧ Below w.heap.size w w' := by
  have t1 : ((e2 : Int) == 0) = false := by rw [beq_eq_false_iff_ne]; omega
  clear he
  have q1 : ∀ w, (binOp .eql 23 (.agg #[.bool y1, .bool y2, .bool y3, .bool y4, .bool y5]) (.agg #[.bool y1, .bool y2, .bool y3, .bool y4, .bool y5])).run Try.prog w = .ok (.bool true) w := fun w => (item_eql y1 y2 y3 y4 y5 y1 y2 y3 y4 y5 w).trans (by rw [itSame_self])
  have q2 : ∀ w, (binOp .eql 23 (.agg #[.bool x1, .bool x2, .bool x3, .bool x4, .bool x5]) (.agg #[.bool x1, .bool x2, .bool x3, .bool x4, .bool x5])).run Try.prog w = .ok (.bool true) w := fun w => (item_eql x1 x2 x3 x4 x5 x1 x2 x3 x4 x5 w).trans (by rw [itSame_self])
  have hgd : Try.prog.eqGuardType Try.prog.depth 23 = false := by kernel_rfl
  have T := twoAt w ⟨a1, a2, a3, a4, a5⟩ ⟨b1, b2, b3, b4, b5⟩ 23 23
  have A := Lib.hid T.1
  have B := Lib.hid T.2
  have B0 : Hid (Below w.heap.size w ((w.alloc (.cells #[.bool a1, .bool a2, .bool a3, .bool a4, .bool a5] 23)).alloc (.cells #[.bool b1, .bool b2, .bool b3, .bool b4, .bool b5] 23))) := Lib.hid (((Below.refl _ _).alloc (Nat.le_refl _) _).alloc (by simp) _)
  clear T
  go_enter Try.func6, Try.ntmps6
  go_wp2_with fail
  refine (sact_eq (a := ⟨a1, a2, a3, a4, a5⟩) (b := ⟨b1, b2, b3, b4, b5⟩) (x := ⟨x1, x2, x3, x4, x5⟩) (y := ⟨y1, y2, y3, y4, y5⟩) (by decide) h _).mono ?_
  rintro e w1 ⟨rfl, b⟩
  have b' := bl_allocS (bl_allocS b (.cells #[.bool x1, .bool x2, .bool x3, .bool x4, .bool x5] 23)) (.cells #[.bool y1, .bool y2, .bool y3, .bool y4, .bool y5] 23)
  have B1 := Lib.hid (below2S B0.out b')
  replace A := Lib.hid (A.out.later b')
  replace B := Lib.hid (B.out.later b')
  have N := twoAt w1 ⟨x1, x2, x3, x4, x5⟩ ⟨y1, y2, y3, y4, y5⟩ 23 23
  have X := Lib.hid N.1
  have Y := Lib.hid N.2
  clear N
  clear b b' B0
  obtain ⟨xc0, xc1, xc2, xc3, xc4⟩ := X.out
  simp only at xc0 xc1 xc2 xc3 xc4
  obtain ⟨yc0, yc1, yc2, yc3, yc4⟩ := Y.out
  simp only at yc0 yc1 yc2 yc3 yc4
  go_wp2_with fail
  refine (sact_eq (a := ⟨x1, x2, x3, x4, x5⟩) (b := ⟨y1, y2, y3, y4, y5⟩) (x := ⟨u1, u2, u3, u4, u5⟩) (y := ⟨v1, v2, v3, v4, v5⟩) (by decide) h2 _).mono ?_
  rintro e w2 ⟨rfl, b⟩
  have b' := bl_allocS (bl_allocS b (.cells #[.bool u1, .bool u2, .bool u3, .bool u4, .bool u5] 23)) (.cells #[.bool v1, .bool v2, .bool v3, .bool v4, .bool v5] 23)
  have B2 := Lib.hid (below2S B1.out b')
  replace A := Lib.hid (A.out.later b')
  replace B := Lib.hid (B.out.later b')
  replace X := Lib.hid (X.out.later b')
  replace Y := Lib.hid (Y.out.later b')
  clear b b' B1
  clear xc0 xc1 xc2 xc3 xc4 yc0 yc1 yc2 yc3 yc4
  obtain ⟨xc0, xc1, xc2, xc3, xc4⟩ := X.out
  simp only at xc0 xc1 xc2 xc3 xc4
  obtain ⟨yc0, yc1, yc2, yc3, yc4⟩ := Y.out
  simp only at yc0 yc1 yc2 yc3 yc4
  obtain ⟨ac0, ac1, ac2, ac3, ac4⟩ := A.out
  simp only at ac0 ac1 ac2 ac3 ac4
  obtain ⟨bc0, bc1, bc2, bc3, bc4⟩ := B.out
  simp only at bc0 bc1 bc2 bc3 bc4
  go_wp2_with fail
  refine (sact_eq (a := ⟨b1, b2, b3, b4, b5⟩) (b := ⟨a1, a2, a3, a4, a5⟩) (x := ⟨y1, y2, y3, y4, y5⟩) (y := ⟨x1, x2, x3, x4, x5⟩) (by decide) h3 _).mono ?_
  rintro e w3 ⟨rfl, b⟩
  have b' := bl_allocS (bl_allocS b (.cells #[.bool y1, .bool y2, .bool y3, .bool y4, .bool y5] 23)) (.cells #[.bool x1, .bool x2, .bool x3, .bool x4, .bool x5] 23)
  have B3 := Lib.hid (below2S B2.out b')
  replace A := Lib.hid (A.out.later b')
  replace B := Lib.hid (B.out.later b')
  replace X := Lib.hid (X.out.later b')
  replace Y := Lib.hid (Y.out.later b')
  have N := twoAt w3 ⟨y1, y2, y3, y4, y5⟩ ⟨x1, x2, x3, x4, x5⟩ 23 23
  have R := Lib.hid N.1
  have S := Lib.hid N.2
  clear N
  clear b b' B2
  clear xc0 xc1 xc2 xc3 xc4 yc0 yc1 yc2 yc3 yc4 ac0 ac1 ac2 ac3 ac4 bc0 bc1 bc2 bc3 bc4
  obtain ⟨rc0, rc1, rc2, rc3, rc4⟩ := R.out
  simp only at rc0 rc1 rc2 rc3 rc4
  obtain ⟨sc0, sc1, sc2, sc3, sc4⟩ := S.out
  simp only at sc0 sc1 sc2 sc3 sc4
  obtain ⟨ac0, ac1, ac2, ac3, ac4⟩ := A.out
  simp only at ac0 ac1 ac2 ac3 ac4
  obtain ⟨bc0, bc1, bc2, bc3, bc4⟩ := B.out
  simp only at bc0 bc1 bc2 bc3 bc4
  obtain ⟨xc0, xc1, xc2, xc3, xc4⟩ := X.out
  simp only at xc0 xc1 xc2 xc3 xc4
  obtain ⟨yc0, yc1, yc2, yc3, yc4⟩ := Y.out
  simp only at yc0 yc1 yc2 yc3 yc4
  go_wp2_with fail
  refine (live7 _).mono ?_
  rintro e w4 ⟨rfl, b⟩
  have B4 := Lib.hid (below2S B3.out b)
  clear b rc0 rc1 rc2 rc3 rc4 sc0 sc1 sc2 sc3 sc4 ac0 ac1 ac2 ac3 ac4 bc0 bc1 bc2 bc3 bc4 xc0 xc1 xc2 xc3 xc4 yc0 yc1 yc2 yc3 yc4
  go_wp2_with fail
  go_ret
  exact ⟨rfl, B4.out⟩

set_option maxHeartbeats 3200000 in
set_option maxRecDepth 100000 in
theorem undo_5 {w : World} (a1 a2 a3 a4 a5 b1 b2 b3 b4 b5 : Bool) {x1 x2 x3 x4 x5 y1 y2 y3 y4 y5 u1 u2 u3 u4 u5 v1 v2 v3 v4 v5 : Bool} {e2 : Nat} (h : Hid (suAct ⟨a1, a2, a3, a4, a5⟩ ⟨b1, b2, b3, b4, b5⟩ 5 = (⟨x1, x2, x3, x4, x5⟩, ⟨y1, y2, y3, y4, y5⟩, 0))) (h2 : Hid (suAct ⟨x1, x2, x3, x4, x5⟩ ⟨y1, y2, y3, y4, y5⟩ 5 = (⟨u1, u2, u3, u4, u5⟩, ⟨v1, v2, v3, v4, v5⟩, e2))) (he : e2 ≠ 0) (h3 : Hid (suAct ⟨x1, x2, x3, x4, x5⟩ ⟨y1, y2, y3, y4, y5⟩ 6 = (⟨a1, a2, a3, a4, a5⟩, ⟨b1, b2, b3, b4, b5⟩, 0))) :
    Calls Try.prog 6 #[.agg #[.bool a1, .bool a2, .bool a3, .bool a4, .bool a5], .agg #[.bool b1, .bool b2, .bool b3, .bool b4, .bool b5], .int .i64 5] w fun e w' => e = .returned (.bool true) ∧ Below w.heap.size w w' := by
  have t1 : ((e2 : Int) == 0) = false := by rw [beq_eq_false_iff_ne]; omega
  clear he
  have q1 : ∀ w, (binOp .eql 23 (.agg #[.bool a1, .bool a2, .bool a3, .bool a4, .bool a5]) (.agg #[.bool a1, .bool a2, .bool a3, .bool a4, .bool a5])).run Try.prog w = .ok (.bool true) w := fun w => (item_eql a1 a2 a3 a4 a5 a1 a2 a3 a4 a5 w).trans (by rw [itSame_self])
  have q2 : ∀ w, (binOp .eql 23 (.agg #[.bool b1, .bool b2, .bool b3, .bool b4, .bool b5]) (.agg #[.bool b1, .bool b2, .bool b3, .bool b4, .bool b5])).run Try.prog w = .ok (.bool true) w := fun w => (item_eql b1 b2 b3 b4 b5 b1 b2 b3 b4 b5 w).trans (by rw [itSame_self])
  have hgd : Try.prog.eqGuardType Try.prog.depth 23 = false := by kernel_rfl
  have T := twoAt w ⟨a1, a2, a3, a4, a5⟩ ⟨b1, b2, b3, b4, b5⟩ 23 23
  have A := Lib.hid T.1
  have B := Lib.hid T.2
  have B0 : Hid (Below w.heap.size w ((w.alloc (.cells #[.bool a1, .bool a2, .bool a3, .bool a4, .bool a5] 23)).alloc (.cells #[.bool b1, .bool b2, .bool b3, .bool b4, .bool b5] 23))) := Lib.hid (((Below.refl _ _).alloc (Nat.le_refl _) _).alloc (by simp) _)
  clear T
  go_enter Try.func6, Try.ntmps6
  go_wp2_with fail
  refine (sact_eq (a := ⟨a1, a2, a3, a4, a5⟩) (b := ⟨b1, b2, b3, b4, b5⟩) (x := ⟨x1, x2, x3, x4, x5⟩) (y := ⟨y1, y2, y3, y4, y5⟩) (by decide) h _).mono ?_
  rintro e w1 ⟨rfl, b⟩
  have b' := bl_allocS (bl_allocS b (.cells #[.bool x1, .bool x2, .bool x3, .bool x4, .bool x5] 23)) (.cells #[.bool y1, .bool y2, .bool y3, .bool y4, .bool y5] 23)
  have B1 := Lib.hid (below2S B0.out b')
  replace A := Lib.hid (A.out.later b')
  replace B := Lib.hid (B.out.later b')
  have N := twoAt w1 ⟨x1, x2, x3, x4, x5⟩ ⟨y1, y2, y3, y4, y5⟩ 23 23
  have X := Lib.hid N.1
  have Y := Lib.hid N.2
  clear N
  clear b b' B0
  obtain ⟨xc0, xc1, xc2, xc3, xc4⟩ := X.out
  simp only at xc0 xc1 xc2 xc3 xc4
  obtain ⟨yc0, yc1, yc2, yc3, yc4⟩ := Y.out
  simp only at yc0 yc1 yc2 yc3 yc4
  go_wp2_with fail
  refine (sact_eq (a := ⟨x1, x2, x3, x4, x5⟩) (b := ⟨y1, y2, y3, y4, y5⟩) (x := ⟨u1, u2, u3, u4, u5⟩) (y := ⟨v1, v2, v3, v4, v5⟩) (by decide) h2 _).mono ?_
  rintro e w2 ⟨rfl, b⟩
  have b' := bl_allocS (bl_allocS b (.cells #[.bool u1, .bool u2, .bool u3, .bool u4, .bool u5] 23)) (.cells #[.bool v1, .bool v2, .bool v3, .bool v4, .bool v5] 23)
  have B2 := Lib.hid (below2S B1.out b')
  replace A := Lib.hid (A.out.later b')
  replace B := Lib.hid (B.out.later b')
  replace X := Lib.hid (X.out.later b')
  replace Y := Lib.hid (Y.out.later b')
  clear b b' B1
  clear xc0 xc1 xc2 xc3 xc4 yc0 yc1 yc2 yc3 yc4
  obtain ⟨xc0, xc1, xc2, xc3, xc4⟩ := X.out
  simp only at xc0 xc1 xc2 xc3 xc4
  obtain ⟨yc0, yc1, yc2, yc3, yc4⟩ := Y.out
  simp only at yc0 yc1 yc2 yc3 yc4
  obtain ⟨ac0, ac1, ac2, ac3, ac4⟩ := A.out
  simp only at ac0 ac1 ac2 ac3 ac4
  obtain ⟨bc0, bc1, bc2, bc3, bc4⟩ := B.out
  simp only at bc0 bc1 bc2 bc3 bc4
  go_wp2_with fail
  refine (sact_eq (a := ⟨x1, x2, x3, x4, x5⟩) (b := ⟨y1, y2, y3, y4, y5⟩) (x := ⟨a1, a2, a3, a4, a5⟩) (y := ⟨b1, b2, b3, b4, b5⟩) (by decide) h3 _).mono ?_
  rintro e w3 ⟨rfl, b⟩
  have b' := bl_allocS (bl_allocS b (.cells #[.bool a1, .bool a2, .bool a3, .bool a4, .bool a5] 23)) (.cells #[.bool b1, .bool b2, .bool b3, .bool b4, .bool b5] 23)
  have B3 := Lib.hid (below2S B2.out b')
  replace A := Lib.hid (A.out.later b')
  replace B := Lib.hid (B.out.later b')
  replace X := Lib.hid (X.out.later b')
  replace Y := Lib.hid (Y.out.later b')
  have N := twoAt w3 ⟨a1, a2, a3, a4, a5⟩ ⟨b1, b2, b3, b4, b5⟩ 23 23
  have R := Lib.hid N.1
  have S := Lib.hid N.2
  clear N
  clear b b' B2
  clear xc0 xc1 xc2 xc3 xc4 yc0 yc1 yc2 yc3 yc4 ac0 ac1 ac2 ac3 ac4 bc0 bc1 bc2 bc3 bc4
  obtain ⟨rc0, rc1, rc2, rc3, rc4⟩ := R.out
  simp only at rc0 rc1 rc2 rc3 rc4
  obtain ⟨sc0, sc1, sc2, sc3, sc4⟩ := S.out
  simp only at sc0 sc1 sc2 sc3 sc4
  obtain ⟨ac0, ac1, ac2, ac3, ac4⟩ := A.out
  simp only at ac0 ac1 ac2 ac3 ac4
  obtain ⟨bc0, bc1, bc2, bc3, bc4⟩ := B.out
  simp only at bc0 bc1 bc2 bc3 bc4
  obtain ⟨xc0, xc1, xc2, xc3, xc4⟩ := X.out
  simp only at xc0 xc1 xc2 xc3 xc4
  obtain ⟨yc0, yc1, yc2, yc3, yc4⟩ := Y.out
  simp only at yc0 yc1 yc2 yc3 yc4
  go_wp2_with fail
  refine (live7 _).mono ?_
  rintro e w4 ⟨rfl, b⟩
  have B4 := Lib.hid (below2S B3.out b)
  clear b rc0 rc1 rc2 rc3 rc4 sc0 sc1 sc2 sc3 sc4 ac0 ac1 ac2 ac3 ac4 bc0 bc1 bc2 bc3 bc4 xc0 xc1 xc2 xc3 xc4 yc0 yc1 yc2 yc3 yc4
  go_wp2_with fail
  go_ret
  exact ⟨rfl, B4.out⟩

set_option maxHeartbeats 3200000 in
set_option maxRecDepth 100000 in
theorem undo_6 {w : World} (a1 a2 a3 a4 a5 b1 b2 b3 b4 b5 : Bool) {x1 x2 x3 x4 x5 y1 y2 y3 y4 y5 u1 u2 u3 u4 u5 v1 v2 v3 v4 v5 : Bool} {e2 : Nat} (h : Hid (suAct ⟨a1, a2, a3, a4, a5⟩ ⟨b1, b2, b3, b4, b5⟩ 6 = (⟨x1, x2, x3, x4, x5⟩, ⟨y1, y2, y3, y4, y5⟩, 0))) (h2 : Hid (suAct ⟨x1, x2, x3, x4, x5⟩ ⟨y1, y2, y3, y4, y5⟩ 6 = (⟨u1, u2, u3, u4, u5⟩, ⟨v1, v2, v3, v4, v5⟩, e2))) (he : e2 ≠ 0) (h3 : Hid (suAct ⟨x1, x2, x3, x4, x5⟩ ⟨y1, y2, y3, y4, y5⟩ 5 = (⟨a1, a2, a3, a4, a5⟩, ⟨b1, b2, b3, b4, b5⟩, 0))) :
    Calls Try.prog 6 #[.agg #[.bool a1, .bool a2, .bool a3, .bool a4, .bool a5], .agg #[.bool b1, .bool b2, .bool b3, .bool b4, .bool b5], .int .i64 6] w fun e w' => e = .returned (.bool true) ∧ Below w.heap.size w w' := by
  have t1 : ((e2 : Int) == 0) = false := by rw [beq_eq_false_iff_ne]; omega
  clear he
  have q1 : ∀ w, (binOp .eql 23 (.agg #[.bool a1, .bool a2, .bool a3, .bool a4, .bool a5]) (.agg #[.bool a1, .bool a2, .bool a3, .bool a4, .bool a5])).run Try.prog w = .ok (.bool true) w := fun w => (item_eql a1 a2 a3 a4 a5 a1 a2 a3 a4 a5 w).trans (by rw [itSame_self])
  have q2 : ∀ w, (binOp .eql 23 (.agg #[.bool b1, .bool b2, .bool b3, .bool b4, .bool b5]) (.agg #[.bool b1, .bool b2, .bool b3, .bool b4, .bool b5])).run Try.prog w = .ok (.bool true) w := fun w => (item_eql b1 b2 b3 b4 b5 b1 b2 b3 b4 b5 w).trans (by rw [itSame_self])
  have hgd : Try.prog.eqGuardType Try.prog.depth 23 = false := by kernel_rfl
  have T := twoAt w ⟨a1, a2, a3, a4, a5⟩ ⟨b1, b2, b3, b4, b5⟩ 23 23
  have A := Lib.hid T.1
  have B := Lib.hid T.2
  have B0 : Hid (Below w.heap.size w ((w.alloc (.cells #[.bool a1, .bool a2, .bool a3, .bool a4, .bool a5] 23)).alloc (.cells #[.bool b1, .bool b2, .bool b3, .bool b4, .bool b5] 23))) := Lib.hid (((Below.refl _ _).alloc (Nat.le_refl _) _).alloc (by simp) _)
  clear T
  go_enter Try.func6, Try.ntmps6
  go_wp2_with fail
  refine (sact_eq (a := ⟨a1, a2, a3, a4, a5⟩) (b := ⟨b1, b2, b3, b4, b5⟩) (x := ⟨x1, x2, x3, x4, x5⟩) (y := ⟨y1, y2, y3, y4, y5⟩) (by decide) h _).mono ?_
  rintro e w1 ⟨rfl, b⟩
  have b' := bl_allocS (bl_allocS b (.cells #[.bool x1, .bool x2, .bool x3, .bool x4, .bool x5] 23)) (.cells #[.bool y1, .bool y2, .bool y3, .bool y4, .bool y5] 23)
  have B1 := Lib.hid (below2S B0.out b')
  replace A := Lib.hid (A.out.later b')
  replace B := Lib.hid (B.out.later b')
  have N := twoAt w1 ⟨x1, x2, x3, x4, x5⟩ ⟨y1, y2, y3, y4, y5⟩ 23 23
  have X := Lib.hid N.1
  have Y := Lib.hid N.2
  clear N
  clear b b' B0
  obtain ⟨xc0, xc1, xc2, xc3, xc4⟩ := X.out
  simp only at xc0 xc1 xc2 xc3 xc4
  obtain ⟨yc0, yc1, yc2, yc3, yc4⟩ := Y.out
  simp only at yc0 yc1 yc2 yc3 yc4
  go_wp2_with fail
  refine (sact_eq (a := ⟨x1, x2, x3, x4, x5⟩) (b := ⟨y1, y2, y3, y4, y5⟩) (x := ⟨u1, u2, u3, u4, u5⟩) (y := ⟨v1, v2, v3, v4, v5⟩) (by decide) h2 _).mono ?_
  rintro e w2 ⟨rfl, b⟩
  have b' := bl_allocS (bl_allocS b (.cells #[.bool u1, .bool u2, .bool u3, .bool u4, .bool u5] 23)) (.cells #[.bool v1, .bool v2, .bool v3, .bool v4, .bool v5] 23)
  have B2 := Lib.hid (below2S B1.out b')
  replace A := Lib.hid (A.out.later b')
  replace B := Lib.hid (B.out.later b')
  replace X := Lib.hid (X.out.later b')
  replace Y := Lib.hid (Y.out.later b')
  clear b b' B1
  clear xc0 xc1 xc2 xc3 xc4 yc0 yc1 yc2 yc3 yc4
  obtain ⟨xc0, xc1, xc2, xc3, xc4⟩ := X.out
  simp only at xc0 xc1 xc2 xc3 xc4
  obtain ⟨yc0, yc1, yc2, yc3, yc4⟩ := Y.out
  simp only at yc0 yc1 yc2 yc3 yc4
  obtain ⟨ac0, ac1, ac2, ac3, ac4⟩ := A.out
  simp only at ac0 ac1 ac2 ac3 ac4
  obtain ⟨bc0, bc1, bc2, bc3, bc4⟩ := B.out
  simp only at bc0 bc1 bc2 bc3 bc4
  go_wp2_with fail
  refine (sact_eq (a := ⟨x1, x2, x3, x4, x5⟩) (b := ⟨y1, y2, y3, y4, y5⟩) (x := ⟨a1, a2, a3, a4, a5⟩) (y := ⟨b1, b2, b3, b4, b5⟩) (by decide) h3 _).mono ?_
  rintro e w3 ⟨rfl, b⟩
  have b' := bl_allocS (bl_allocS b (.cells #[.bool a1, .bool a2, .bool a3, .bool a4, .bool a5] 23)) (.cells #[.bool b1, .bool b2, .bool b3, .bool b4, .bool b5] 23)
  have B3 := Lib.hid (below2S B2.out b')
  replace A := Lib.hid (A.out.later b')
  replace B := Lib.hid (B.out.later b')
  replace X := Lib.hid (X.out.later b')
  replace Y := Lib.hid (Y.out.later b')
  have N := twoAt w3 ⟨a1, a2, a3, a4, a5⟩ ⟨b1, b2, b3, b4, b5⟩ 23 23
  have R := Lib.hid N.1
  have S := Lib.hid N.2
  clear N
  clear b b' B2
  clear xc0 xc1 xc2 xc3 xc4 yc0 yc1 yc2 yc3 yc4 ac0 ac1 ac2 ac3 ac4 bc0 bc1 bc2 bc3 bc4
  obtain ⟨rc0, rc1, rc2, rc3, rc4⟩ := R.out
  simp only at rc0 rc1 rc2 rc3 rc4
  obtain ⟨sc0, sc1, sc2, sc3, sc4⟩ := S.out
  simp only at sc0 sc1 sc2 sc3 sc4
  obtain ⟨ac0, ac1, ac2, ac3, ac4⟩ := A.out
  simp only at ac0 ac1 ac2 ac3 ac4
  obtain ⟨bc0, bc1, bc2, bc3, bc4⟩ := B.out
  simp only at bc0 bc1 bc2 bc3 bc4
  obtain ⟨xc0, xc1, xc2, xc3, xc4⟩ := X.out
  simp only at xc0 xc1 xc2 xc3 xc4
  obtain ⟨yc0, yc1, yc2, yc3, yc4⟩ := Y.out
  simp only at yc0 yc1 yc2 yc3 yc4
  go_wp2_with fail
  refine (live7 _).mono ?_
  rintro e w4 ⟨rfl, b⟩
  have B4 := Lib.hid (below2S B3.out b)
  clear b rc0 rc1 rc2 rc3 rc4 sc0 sc1 sc2 sc3 sc4 ac0 ac1 ac2 ac3 ac4 bc0 bc1 bc2 bc3 bc4 xc0 xc1 xc2 xc3 xc4 yc0 yc1 yc2 yc3 yc4
  go_wp2_with fail
  go_ret
  exact ⟨rfl, B4.out⟩

theorem walkSubsUndo {w : World} (a1 a2 a3 a4 a5 b1 b2 b3 b4 b5 : Bool) (k : Int) (hk : (Lit.int .i64 k).wf = true) :
    Calls Try.prog 6 #[.agg #[.bool a1, .bool a2, .bool a3, .bool a4, .bool a5], .agg #[.bool b1, .bool b2, .bool b3, .bool b4, .bool b5], .int .i64 k] w fun e w' => e = .returned (.bool true) ∧ Below w.heap.size w w' := by
  obtain ⟨⟨x1, x2, x3, x4, x5⟩, ⟨y1, y2, y3, y4, y5⟩, er, hr⟩ : ∃ x y er, suAct ⟨a1, a2, a3, a4, a5⟩ ⟨b1, b2, b3, b4, b5⟩ k = (x, y, er) := ⟨_, _, _, rfl⟩
  by_cases he : er = 0
  · subst he
    obtain ⟨_, h1, h6, _⟩ := suAct_ok hr
    obtain ⟨⟨u1, u2, u3, u4, u5⟩, ⟨v1, v2, v3, v4, v5⟩, e2, h2⟩ : ∃ x y er, suAct ⟨x1, x2, x3, x4, x5⟩ ⟨y1, y2, y3, y4, y5⟩ k = (x, y, er) := ⟨_, _, _, rfl⟩
    have hm := (suAct_may hr).2
    rw [h2] at hm
    have hk6 := k_cases h1 h6
    rcases hk6 with rfl | rfl | rfl | rfl | rfl | rfl
    · exact undo_1 a1 a2 a3 a4 a5 b1 b2 b3 b4 b5 hr h2 hm
    · exact undo_2 a1 a2 a3 a4 a5 b1 b2 b3 b4 b5 hr h2 hm
    · exact undo_3 a1 a2 a3 a4 a5 b1 b2 b3 b4 b5 hr h2 hm (suAct_back.2.2.1 hr)
    · exact undo_4 a1 a2 a3 a4 a5 b1 b2 b3 b4 b5 hr h2 hm (suAct_back.2.2.2 hr)
    · exact undo_5 a1 a2 a3 a4 a5 b1 b2 b3 b4 b5 hr h2 hm (suAct_back.1 hr)
    · exact undo_6 a1 a2 a3 a4 a5 b1 b2 b3 b4 b5 hr h2 hm (suAct_back.2.1 hr)
  · obtain ⟨e1, e2⟩ := suAct_err hr he
    rw [e1, e2] at hr
    exact undo_err a1 a2 a3 a4 a5 b1 b2 b3 b4 b5 k hk hr he

end Go.Proofs.Ytjlgdhggeejkkaa
