/-
  THE WALK OF SubsActs.
-/
import Derived.Test.YtjlgdhggeejkkaaSubLive
namespace Go.Proofs.Ytjlgdhggeejkkaa
open Go.RowKit

set_option maxHeartbeats 3200000 in
set_option maxRecDepth 100000 in
theorem walkSubsActs {w : World} (a1 a2 a3 a4 a5 b1 b2 b3 b4 b5 : Bool) (k : Int) (hk : (Lit.int .i64 k).wf = true) :
    Calls Try.prog 4 #[.agg #[.bool a1, .bool a2, .bool a3, .bool a4, .bool a5], .agg #[.bool b1, .bool b2, .bool b3, .bool b4, .bool b5], .int .i64 k] w fun e w' => e = .returned (.bool true) ∧ Below w.heap.size w w' := by
  obtain ⟨⟨x1, x2, x3, x4, x5⟩, ⟨y1, y2, y3, y4, y5⟩, er, hr⟩ : ∃ x y er, suAct ⟨a1, a2, a3, a4, a5⟩ ⟨b1, b2, b3, b4, b5⟩ k = (x, y, er) := ⟨_, _, _, rfl⟩
  have HR := Lib.hid hr
  clear hr
  obtain ⟨n1, n2⟩ := twoAt w ⟨a1, a2, a3, a4, a5⟩ ⟨b1, b2, b3, b4, b5⟩ 23 23
  have A := Lib.hid n1
  have B := Lib.hid n2
  have B0 : Hid (Below w.heap.size w ((w.alloc (.cells #[.bool a1, .bool a2, .bool a3, .bool a4, .bool a5] 23)).alloc (.cells #[.bool b1, .bool b2, .bool b3, .bool b4, .bool b5] 23))) := Lib.hid (((Below.refl _ _).alloc (Nat.le_refl _) _).alloc (by simp) _)
  have q1 : ∀ w, (binOp .eql 23 (.agg #[.bool x1, .bool x2, .bool x3, .bool x4, .bool x5]) (.agg #[.bool x1, .bool x2, .bool x3, .bool x4, .bool x5])).run Try.prog w = .ok (.bool true) w := fun w => (item_eql x1 x2 x3 x4 x5 x1 x2 x3 x4 x5 w).trans (by rw [itSame_self])
  have q2 : ∀ w, (binOp .eql 23 (.agg #[.bool y1, .bool y2, .bool y3, .bool y4, .bool y5]) (.agg #[.bool y1, .bool y2, .bool y3, .bool y4, .bool y5])).run Try.prog w = .ok (.bool true) w := fun w => (item_eql y1 y2 y3 y4 y5 y1 y2 y3 y4 y5 w).trans (by rw [itSame_self])
  have hgd : Try.prog.eqGuardType Try.prog.depth 23 = false := by kernel_rfl
  clear n1 n2
  go_enter Try.func4, Try.ntmps4
  go_wp2_with fail
  refine (sact_eq (a := ⟨a1, a2, a3, a4, a5⟩) (b := ⟨b1, b2, b3, b4, b5⟩) (x := ⟨x1, x2, x3, x4, x5⟩) (y := ⟨y1, y2, y3, y4, y5⟩) hk HR _).mono ?_
  rintro e w1 ⟨rfl, b⟩
  have b' := bl_allocS (bl_allocS b (.cells #[.bool x1, .bool x2, .bool x3, .bool x4, .bool x5] 23)) (.cells #[.bool y1, .bool y2, .bool y3, .bool y4, .bool y5] 23)
  have B1 := Lib.hid (below2S B0.out b')
  obtain ⟨a0, a1', a2', a3', a4'⟩ := A.out.later b'
  obtain ⟨c0, c1, c2, c3, c4⟩ := B.out.later b'
  simp only at a0 a1' a2' a3' a4' c0 c1 c2 c3 c4
  obtain ⟨n1, n2⟩ := twoAt w1 ⟨x1, x2, x3, x4, x5⟩ ⟨y1, y2, y3, y4, y5⟩ 23 23
  have X1 := Lib.hid n1
  have Y1 := Lib.hid n2
  clear b b' n1 n2 B0
  go_wp2_with fail
  refine (ract_eq (a := ⟨a1, a2, a3, a4, a5⟩) (b := ⟨b1, b2, b3, b4, b5⟩) (x := ⟨x1, x2, x3, x4, x5⟩) (y := ⟨y1, y2, y3, y4, y5⟩) HR _).mono ?_
  rintro e w2 ⟨rfl, b⟩
  have b' := bl_allocS (bl_allocS b (.cells #[.bool x1, .bool x2, .bool x3, .bool x4, .bool x5] 23)) (.cells #[.bool y1, .bool y2, .bool y3, .bool y4, .bool y5] 23)
  have B2 := Lib.hid (below2S B1.out b')
  obtain ⟨d0, d1, d2, d3, d4⟩ := X1.out.later b'
  obtain ⟨f0, f1, f2, f3, f4⟩ := Y1.out.later b'
  simp only at d0 d1 d2 d3 d4 f0 f1 f2 f3 f4
  clear b b' a0 a1' a2' a3' a4' c0 c1 c2 c3 c4
  go_wp2_with fail
  refine (live7 _).mono ?_
  rintro e w3 ⟨rfl, b⟩
  have B3 := Lib.hid (below2S B2.out b)
  clear b
  go_wp2_with fail
  go_ret
  exact ⟨rfl, B3.out⟩

end Go.Proofs.Ytjlgdhggeejkkaa
