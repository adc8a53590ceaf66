/-
  LAYER 10, THE CODE: the parent of a place; which of two slots is better.
-/
import Derived.Test.YtkmbnpjnjlcjmaaHeaMem
namespace Go.Proofs.Ytkmbnpjnjlcjmaa
open Go.RowKit

theorem parent_any (k : Nat) (h : 0 < k) (hk : k < 1000000) (w : World) : Calls Try.prog 154 #[.int .i64 k] w fun e w' => e = .returned (.int .i64 (par k)) ∧ w = w' := by
  have h1 : (1 : Int) ≤ (k : Int) := by omega
  have h2 : (k : Int) < 1000000 := by omega
  have h3 : ((k : Int) - 1) / 2 = ((par k : Nat) : Int) := by unfold par; omega
  have H3 := Lib.hid h3
  clear h3 h hk
  go_enter Try.func154, Try.ntmps154
  go_wp2
  go_ret
  exact ⟨ret_int H3.out, rfl⟩

/-- The ranks of a slot. -/
def rk (s : Sl) (i : Nat) : Int := if i = 0 then s.r0 else if i = 1 then s.r1 else s.r2

theorem slBet_at {a b : Sl} {k : Nat} (hk : k < 3) (hs : ∀ j, j < k → rk a j = rk b j) (hd : rk a k ≠ rk b k) : slBet a b = decide (rk b k < rk a k) := by
  have h3 : k = 0 ∨ k = 1 ∨ k = 2 := by omega
  unfold slBet
  rcases h3 with rfl | rfl | rfl
  · have : a.r0 ≠ b.r0 := hd
    rw [if_neg this]; rfl
  · have h0 : a.r0 = b.r0 := hs 0 (by omega)
    have : a.r1 ≠ b.r1 := hd
    rw [if_pos h0, if_neg this]; rfl
  · have h0 : a.r0 = b.r0 := hs 0 (by omega)
    have h1 : a.r1 = b.r1 := hs 1 (by omega)
    have : a.r2 ≠ b.r2 := hd
    rw [if_pos h0, if_pos h1, if_neg this]; rfl

theorem slBet_id {a b : Sl} (hs : ∀ j, j < 3 → rk a j = rk b j) : slBet a b = decide (a.id < b.id) := by
  have h0 : a.r0 = b.r0 := hs 0 (by omega)
  have h1 : a.r1 = b.r1 := hs 1 (by omega)
  have h2 : a.r2 = b.r2 := hs 2 (by omega)
  unfold slBet
  rw [if_pos h0, if_pos h1, if_pos h2]

set_option maxHeartbeats 1600000 in
set_option maxRecDepth 100000 in
theorem better_any (i a0 a1 a2 j b0 b1 b2 : Int) (w : World) :
    Calls Try.prog 115 #[.agg #[.int .i64 i, .int .i64 a0, .int .i64 a1, .int .i64 a2], .agg #[.int .i64 j, .int .i64 b0, .int .i64 b1, .int .i64 b2]] w fun e w' => e = .returned (.bool (slBet ⟨i, a0, a1, a2⟩ ⟨j, b0, b1, b2⟩)) ∧ Below w.heap.size w w' := by
  have B0 : Hid (Below w.heap.size w ((w.alloc (.cells #[.int .i64 i, .int .i64 a0, .int .i64 a1, .int .i64 a2] 92)).alloc (.cells #[.int .i64 j, .int .i64 b0, .int .i64 b1, .int .i64 b2] 92))) := Lib.hid (((Below.refl _ _).alloc (Nat.le_refl _) _).alloc (by simp) _)
  have x0 : ∀ w, (Instr.index 90 (.agg #[.int .i64 a0, .int .i64 a1, .int .i64 a2]) (.int .i64 0)).run Try.prog w = .ok (.int .i64 a0) w := fun _ => by kernel_rfl
  have x1 : ∀ w, (Instr.index 90 (.agg #[.int .i64 a0, .int .i64 a1, .int .i64 a2]) (.int .i64 1)).run Try.prog w = .ok (.int .i64 a1) w := fun _ => by kernel_rfl
  have x2 : ∀ w, (Instr.index 90 (.agg #[.int .i64 a0, .int .i64 a1, .int .i64 a2]) (.int .i64 2)).run Try.prog w = .ok (.int .i64 a2) w := fun _ => by kernel_rfl
  go_enter Try.func115, Try.ntmps115
  go_wp2_with fail
  go_loop [9] (fun t => ∃ k : Nat, k ≤ 3 ∧ t = .int .i64 k ∧ Hid (∀ x, x < k → rk ⟨i, a0, a1, a2⟩ x = rk ⟨j, b0, b1, b2⟩ x)) (fun t => 3 - (intOf t).toNat)
  case atStart => exact ⟨0, by omega, rfl, by show ∀ _, _; intro x hx; omega⟩
  case round =>
    obtain ⟨k, hk, rfl, HA⟩ := hrel
    have h3 : k = 0 ∨ k = 1 ∨ k = 2 ∨ k = 3 := by omega
    rcases h3 with rfl | rfl | rfl | rfl
    · by_cases h : a0 = b0
      · have HA2 : Hid (∀ x, x < 1 → rk ⟨i, a0, a1, a2⟩ x = rk ⟨j, b0, b1, b2⟩ x) := by
          show ∀ _, _
          intro x hx
          obtain rfl : x = 0 := by omega
          exact h
        have t1 : (a0 != b0) = false := by simpa using h
        clear h
        go_wp2_with fail
        go_round
        case rel => exact ⟨1, by omega, rfl, HA2⟩
        case measure => simp [intOf]
      · have HR := Lib.hid (slBet_at (a := ⟨i, a0, a1, a2⟩) (b := ⟨j, b0, b1, b2⟩) (k := 0) (by omega) HA.out h)
        have t1 : (a0 != b0) = true := by simpa using h
        clear h
        go_wp2_with fail
        go_ret
        exact ⟨by rw [HR.out]; rfl, B0.out⟩
    · by_cases h : a1 = b1
      · have HA2 : Hid (∀ x, x < 2 → rk ⟨i, a0, a1, a2⟩ x = rk ⟨j, b0, b1, b2⟩ x) := by
          show ∀ _, _
          intro x hx
          by_cases e : x = 1
          · subst e; exact h
          · exact HA.out x (by omega)
        have t1 : (a1 != b1) = false := by simpa using h
        clear h
        go_wp2_with fail
        go_round
        case rel => exact ⟨2, by omega, rfl, HA2⟩
        case measure => simp [intOf]
      · have HR := Lib.hid (slBet_at (a := ⟨i, a0, a1, a2⟩) (b := ⟨j, b0, b1, b2⟩) (k := 1) (by omega) HA.out h)
        have t1 : (a1 != b1) = true := by simpa using h
        clear h
        go_wp2_with fail
        go_ret
        exact ⟨by rw [HR.out]; rfl, B0.out⟩
    · by_cases h : a2 = b2
      · have HA2 : Hid (∀ x, x < 3 → rk ⟨i, a0, a1, a2⟩ x = rk ⟨j, b0, b1, b2⟩ x) := by
          show ∀ _, _
          intro x hx
          by_cases e : x = 2
          · subst e; exact h
          · exact HA.out x (by omega)
        have t1 : (a2 != b2) = false := by simpa using h
        clear h
        go_wp2_with fail
        go_round
        case rel => exact ⟨3, by omega, rfl, HA2⟩
        case measure => simp [intOf]
      · have HR := Lib.hid (slBet_at (a := ⟨i, a0, a1, a2⟩) (b := ⟨j, b0, b1, b2⟩) (k := 2) (by omega) HA.out h)
        have t1 : (a2 != b2) = true := by simpa using h
        clear h
        go_wp2_with fail
        go_ret
        exact ⟨by rw [HR.out]; rfl, B0.out⟩
    · have HR := Lib.hid (slBet_id HA.out)
      go_wp2_with fail
      go_ret
      exact ⟨by rw [HR.out]; rfl, B0.out⟩

end Go.Proofs.Ytkmbnpjnjlcjmaa
