/-
  LAYER 10, THE DOCUMENT's: which slot is better; where an id stands; Get, Top.
-/
import Derived.Test.YtkmbnpjnjlcjmaaHeaEq
namespace Go.Proofs.Ytkmbnpjnjlcjmaa
open Go.RowKit

/-- The place of an id, or -1. -/
def placeI (L : List Sl) (id : Int) : Int := match spot L id with | some p => (p : Int) | none => -1

set_option maxHeartbeats 1600000 in
set_option maxRecDepth 100000 in
theorem rbetter_any (i a0 a1 a2 j b0 b1 b2 : Int) (w : World) :
    Calls Try.prog 121 #[.agg #[.int .i64 i, .int .i64 a0, .int .i64 a1, .int .i64 a2], .agg #[.int .i64 j, .int .i64 b0, .int .i64 b1, .int .i64 b2]] w fun e w' => e = .returned (.bool (slBet ⟨i, a0, a1, a2⟩ ⟨j, b0, b1, b2⟩)) ∧ Below w.heap.size w w' := by
  have HB0 := Lib.hid (show Below w.heap.size w ((w.alloc (.cells #[.int .i64 i, .int .i64 a0, .int .i64 a1, .int .i64 a2] 159)).alloc (.cells #[.int .i64 j, .int .i64 b0, .int .i64 b1, .int .i64 b2] 159)) from ((Below.refl _ _).alloc (Nat.le_refl _) _).alloc (by simp) _)
  have HXa := Lib.hid ((cellsAt_made (w := w) (cs := #[.int .i64 i, .int .i64 a0, .int .i64 a1, .int .i64 a2]) (vs := slVals ⟨i, a0, a1, a2⟩) rfl 159 rfl).later (bl_newZ _ (.cells #[.int .i64 j, .int .i64 b0, .int .i64 b1, .int .i64 b2] 159)))
  have HXb := Lib.hid (cellsAt_made (w := w.alloc (.cells #[.int .i64 i, .int .i64 a0, .int .i64 a1, .int .i64 a2] 159)) (cs := #[.int .i64 j, .int .i64 b0, .int .i64 b1, .int .i64 b2]) (vs := slVals ⟨j, b0, b1, b2⟩) rfl 159 (B := w.heap.size + 1) (by simp))
  go_enter Try.func121, Try.ntmps121
  go_wp2_with fail
  generalize (w.alloc (.cells #[.int .i64 i, .int .i64 a0, .int .i64 a1, .int .i64 a2] 159)).alloc (.cells #[.int .i64 j, .int .i64 b0, .int .i64 b1, .int .i64 b2] 159) = w1 at HB0 HXa HXb ⊢
  go_loopw [5] (fun t wr => ∃ k : Nat, k ≤ 3 ∧ t = .int .i64 k ∧ Hid (∀ x, x < k → rk ⟨i, a0, a1, a2⟩ x = rk ⟨j, b0, b1, b2⟩ x) ∧ Hid (Below w1.heap.size w1 wr)) (fun t _ => 3 - (intOf t).toNat)
  case atStart => exact ⟨0, by omega, rfl, by show ∀ _, _; intro x hx; omega, Below.refl _ _⟩
  case round =>
    obtain ⟨k, hk, rfl, HA, HB⟩ := hrel
    have BW := Lib.hid (HB0.out.trans (HB.out.mono HB0.out.size))
    obtain ⟨x0, x1, x2, x3⟩ := cells4 (HXa.out.later HB.out)
    obtain ⟨y0, y1, y2, y3⟩ := cells4 (HXb.out.later HB.out)
    simp only [Nat.zero_add] at x0 x1 x2 x3 y0 y1 y2 y3
    have h3 : k = 0 ∨ k = 1 ∨ k = 2 ∨ k = 3 := by omega
    rcases h3 with rfl | rfl | rfl | rfl
    · by_cases h : a0 = b0
      · have HA2 : Hid (∀ x, x < 1 → rk ⟨i, a0, a1, a2⟩ x = rk ⟨j, b0, b1, b2⟩ x) := by
          show ∀ _, _
          intro x hx
          by_cases e : x = 0
          · subst e; exact h
          · exact HA.out x (by omega)
        have t1 : (a0 != b0) = false := by simpa using h
        clear h
        go_wp2_with fail
        have p0 := cell_regrown x0
        have p1 := cell_regrown x1
        have p2 := cell_regrown x2
        have p3 := cell_regrown x3
        have q0 := cell_regrown y0
        have q1 := cell_regrown y1
        have q2 := cell_regrown y2
        have q3 := cell_regrown y3
        refine wp_region_quiet_below (by kernel_rfl) (by kernel_rfl) ?_
        repeat (go_big_quiet_step (fail))
        refine wpQuiet_nil ?_
        intro w5 hw
        have b := regrownZ hw
        have B5 := Lib.hid (below2Z HB.out b)
        replace x0 := cellLaterZ x0 b
        replace x1 := cellLaterZ x1 b
        replace x2 := cellLaterZ x2 b
        replace x3 := cellLaterZ x3 b
        replace y0 := cellLaterZ y0 b
        replace y1 := cellLaterZ y1 b
        replace y2 := cellLaterZ y2 b
        replace y3 := cellLaterZ y3 b
        clear hw b p0 p1 p2 p3 q0 q1 q2 q3
        go_wp2_with fail
        go_roundw
        case rel => exact ⟨1, by omega, rfl, HA2, B5⟩
        case measure => simp [intOf]
      · have HR := Lib.hid (slBet_at (a := ⟨i, a0, a1, a2⟩) (b := ⟨j, b0, b1, b2⟩) (k := 0) (by omega) HA.out h)
        have t1 : (a0 != b0) = true := by simpa using h
        clear h
        go_wp2_with fail
        have p0 := cell_regrown x0
        have p1 := cell_regrown x1
        have p2 := cell_regrown x2
        have p3 := cell_regrown x3
        have q0 := cell_regrown y0
        have q1 := cell_regrown y1
        have q2 := cell_regrown y2
        have q3 := cell_regrown y3
        refine wp_region_quiet_below (by kernel_rfl) (by kernel_rfl) ?_
        repeat (go_big_quiet_step (fail))
        refine wpQuiet_nil ?_
        intro w5 hw
        have b := regrownZ hw
        have B5 := Lib.hid (below2Z HB.out b)
        replace x0 := cellLaterZ x0 b
        replace x1 := cellLaterZ x1 b
        replace x2 := cellLaterZ x2 b
        replace x3 := cellLaterZ x3 b
        replace y0 := cellLaterZ y0 b
        replace y1 := cellLaterZ y1 b
        replace y2 := cellLaterZ y2 b
        replace y3 := cellLaterZ y3 b
        clear hw b p0 p1 p2 p3 q0 q1 q2 q3
        go_wp2_with fail
        have p0 := cell_regrown x0
        have p1 := cell_regrown x1
        have p2 := cell_regrown x2
        have p3 := cell_regrown x3
        have q0 := cell_regrown y0
        have q1 := cell_regrown y1
        have q2 := cell_regrown y2
        have q3 := cell_regrown y3
        refine wp_region_quiet_below (by kernel_rfl) (by kernel_rfl) ?_
        repeat (go_big_quiet_step (fail))
        refine wpQuiet_nil ?_
        intro w6 hw
        have b := regrownZ hw
        have B6 := Lib.hid (below2Z B5.out b)
        replace x0 := cellLaterZ x0 b
        replace x1 := cellLaterZ x1 b
        replace x2 := cellLaterZ x2 b
        replace x3 := cellLaterZ x3 b
        replace y0 := cellLaterZ y0 b
        replace y1 := cellLaterZ y1 b
        replace y2 := cellLaterZ y2 b
        replace y3 := cellLaterZ y3 b
        clear hw b p0 p1 p2 p3 q0 q1 q2 q3
        go_wp2_with fail
        go_ret
        exact ⟨by rw [HR.out]; rfl, HB0.out.trans (B6.out.mono HB0.out.size)⟩
    · by_cases h : a1 = b1
      · have HA2 : Hid (∀ x, x < 2 → rk ⟨i, a0, a1, a2⟩ x = rk ⟨j, b0, b1, b2⟩ x) := by
          show ∀ _, _
          intro x hx
          by_cases e : x = 1
          · subst e; exact h
          · exact HA.out x (by omega)
        have t1 : (a1 != b1) = false := by simpa using h
        clear h
        go_wp2_with fail
        have p0 := cell_regrown x0
        have p1 := cell_regrown x1
        have p2 := cell_regrown x2
        have p3 := cell_regrown x3
        have q0 := cell_regrown y0
        have q1 := cell_regrown y1
        have q2 := cell_regrown y2
        have q3 := cell_regrown y3
        refine wp_region_quiet_below (by kernel_rfl) (by kernel_rfl) ?_
        repeat (go_big_quiet_step (fail))
        refine wpQuiet_nil ?_
        intro w5 hw
        have b := regrownZ hw
        have B5 := Lib.hid (below2Z HB.out b)
        replace x0 := cellLaterZ x0 b
        replace x1 := cellLaterZ x1 b
        replace x2 := cellLaterZ x2 b
        replace x3 := cellLaterZ x3 b
        replace y0 := cellLaterZ y0 b
        replace y1 := cellLaterZ y1 b
        replace y2 := cellLaterZ y2 b
        replace y3 := cellLaterZ y3 b
        clear hw b p0 p1 p2 p3 q0 q1 q2 q3
        go_wp2_with fail
        go_roundw
        case rel => exact ⟨2, by omega, rfl, HA2, B5⟩
        case measure => simp [intOf]
      · have HR := Lib.hid (slBet_at (a := ⟨i, a0, a1, a2⟩) (b := ⟨j, b0, b1, b2⟩) (k := 1) (by omega) HA.out h)
        have t1 : (a1 != b1) = true := by simpa using h
        clear h
        go_wp2_with fail
        have p0 := cell_regrown x0
        have p1 := cell_regrown x1
        have p2 := cell_regrown x2
        have p3 := cell_regrown x3
        have q0 := cell_regrown y0
        have q1 := cell_regrown y1
        have q2 := cell_regrown y2
        have q3 := cell_regrown y3
        refine wp_region_quiet_below (by kernel_rfl) (by kernel_rfl) ?_
        repeat (go_big_quiet_step (fail))
        refine wpQuiet_nil ?_
        intro w5 hw
        have b := regrownZ hw
        have B5 := Lib.hid (below2Z HB.out b)
        replace x0 := cellLaterZ x0 b
        replace x1 := cellLaterZ x1 b
        replace x2 := cellLaterZ x2 b
        replace x3 := cellLaterZ x3 b
        replace y0 := cellLaterZ y0 b
        replace y1 := cellLaterZ y1 b
        replace y2 := cellLaterZ y2 b
        replace y3 := cellLaterZ y3 b
        clear hw b p0 p1 p2 p3 q0 q1 q2 q3
        go_wp2_with fail
        have p0 := cell_regrown x0
        have p1 := cell_regrown x1
        have p2 := cell_regrown x2
        have p3 := cell_regrown x3
        have q0 := cell_regrown y0
        have q1 := cell_regrown y1
        have q2 := cell_regrown y2
        have q3 := cell_regrown y3
        refine wp_region_quiet_below (by kernel_rfl) (by kernel_rfl) ?_
        repeat (go_big_quiet_step (fail))
        refine wpQuiet_nil ?_
        intro w6 hw
        have b := regrownZ hw
        have B6 := Lib.hid (below2Z B5.out b)
        replace x0 := cellLaterZ x0 b
        replace x1 := cellLaterZ x1 b
        replace x2 := cellLaterZ x2 b
        replace x3 := cellLaterZ x3 b
        replace y0 := cellLaterZ y0 b
        replace y1 := cellLaterZ y1 b
        replace y2 := cellLaterZ y2 b
        replace y3 := cellLaterZ y3 b
        clear hw b p0 p1 p2 p3 q0 q1 q2 q3
        go_wp2_with fail
        go_ret
        exact ⟨by rw [HR.out]; rfl, HB0.out.trans (B6.out.mono HB0.out.size)⟩
    · by_cases h : a2 = b2
      · have HA2 : Hid (∀ x, x < 3 → rk ⟨i, a0, a1, a2⟩ x = rk ⟨j, b0, b1, b2⟩ x) := by
          show ∀ _, _
          intro x hx
          by_cases e : x = 2
          · subst e; exact h
          · exact HA.out x (by omega)
        have t1 : (a2 != b2) = false := by simpa using h
        clear h
        go_wp2_with fail
        have p0 := cell_regrown x0
        have p1 := cell_regrown x1
        have p2 := cell_regrown x2
        have p3 := cell_regrown x3
        have q0 := cell_regrown y0
        have q1 := cell_regrown y1
        have q2 := cell_regrown y2
        have q3 := cell_regrown y3
        refine wp_region_quiet_below (by kernel_rfl) (by kernel_rfl) ?_
        repeat (go_big_quiet_step (fail))
        refine wpQuiet_nil ?_
        intro w5 hw
        have b := regrownZ hw
        have B5 := Lib.hid (below2Z HB.out b)
        replace x0 := cellLaterZ x0 b
        replace x1 := cellLaterZ x1 b
        replace x2 := cellLaterZ x2 b
        replace x3 := cellLaterZ x3 b
        replace y0 := cellLaterZ y0 b
        replace y1 := cellLaterZ y1 b
        replace y2 := cellLaterZ y2 b
        replace y3 := cellLaterZ y3 b
        clear hw b p0 p1 p2 p3 q0 q1 q2 q3
        go_wp2_with fail
        go_roundw
        case rel => exact ⟨3, by omega, rfl, HA2, B5⟩
        case measure => simp [intOf]
      · have HR := Lib.hid (slBet_at (a := ⟨i, a0, a1, a2⟩) (b := ⟨j, b0, b1, b2⟩) (k := 2) (by omega) HA.out h)
        have t1 : (a2 != b2) = true := by simpa using h
        clear h
        go_wp2_with fail
        have p0 := cell_regrown x0
        have p1 := cell_regrown x1
        have p2 := cell_regrown x2
        have p3 := cell_regrown x3
        have q0 := cell_regrown y0
        have q1 := cell_regrown y1
        have q2 := cell_regrown y2
        have q3 := cell_regrown y3
        refine wp_region_quiet_below (by kernel_rfl) (by kernel_rfl) ?_
        repeat (go_big_quiet_step (fail))
        refine wpQuiet_nil ?_
        intro w5 hw
        have b := regrownZ hw
        have B5 := Lib.hid (below2Z HB.out b)
        replace x0 := cellLaterZ x0 b
        replace x1 := cellLaterZ x1 b
        replace x2 := cellLaterZ x2 b
        replace x3 := cellLaterZ x3 b
        replace y0 := cellLaterZ y0 b
        replace y1 := cellLaterZ y1 b
        replace y2 := cellLaterZ y2 b
        replace y3 := cellLaterZ y3 b
        clear hw b p0 p1 p2 p3 q0 q1 q2 q3
        go_wp2_with fail
        have p0 := cell_regrown x0
        have p1 := cell_regrown x1
        have p2 := cell_regrown x2
        have p3 := cell_regrown x3
        have q0 := cell_regrown y0
        have q1 := cell_regrown y1
        have q2 := cell_regrown y2
        have q3 := cell_regrown y3
        refine wp_region_quiet_below (by kernel_rfl) (by kernel_rfl) ?_
        repeat (go_big_quiet_step (fail))
        refine wpQuiet_nil ?_
        intro w6 hw
        have b := regrownZ hw
        have B6 := Lib.hid (below2Z B5.out b)
        replace x0 := cellLaterZ x0 b
        replace x1 := cellLaterZ x1 b
        replace x2 := cellLaterZ x2 b
        replace x3 := cellLaterZ x3 b
        replace y0 := cellLaterZ y0 b
        replace y1 := cellLaterZ y1 b
        replace y2 := cellLaterZ y2 b
        replace y3 := cellLaterZ y3 b
        clear hw b p0 p1 p2 p3 q0 q1 q2 q3
        go_wp2_with fail
        go_ret
        exact ⟨by rw [HR.out]; rfl, HB0.out.trans (B6.out.mono HB0.out.size)⟩
    · have HR := Lib.hid (slBet_id HA.out)
      go_wp2_with fail
      go_ret
      exact ⟨by rw [HR.out]; rfl, BW.out⟩

theorem rbetter_eq (i a0 a1 a2 j b0 b1 b2 : Int) {r : Bool} (h : slBet ⟨i, a0, a1, a2⟩ ⟨j, b0, b1, b2⟩ = r) (w : World) :
    Calls Try.prog 121 #[.agg #[.int .i64 i, .int .i64 a0, .int .i64 a1, .int .i64 a2], .agg #[.int .i64 j, .int .i64 b0, .int .i64 b1, .int .i64 b2]] w fun e w' => e = .returned (.bool r) ∧ Below w.heap.size w w' := by
  rw [← h]
  exact rbetter_any i a0 a1 a2 j b0 b1 b2 w

end Go.Proofs.Ytkmbnpjnjlcjmaa
