/-
  THE CONTRACTS OF crc.Step, low AND OF THE DOCUMENT'S ANSWER TO Step.
-/
import Derived.Test.YthfkfonfiejbmaaKit
import Derived.Test.YthfkfonfiejbmaaCrcPure
import Derived.Test.YthfkfonfiejbmaaRows
import Derived.Deep.DeepMust
import Derived.Lib.Hide
namespace Go.Proofs.Ythfkfonfiejbmaa
open Go.RowKit

theorem and1_u32 (y : Nat) (h : y < 4294967296) : bits .and .u32 (y : Int) 1 = ((y % 2 : Nat) : Int) := by
  rw [show (1 : Int) = ((1 : Nat) : Int) from rfl, u32_and_nat _ _ h (by omega), nat_mask1]

theorem xor_poly (y : Nat) (h : y < 4294967296) : bits .xor .u32 ((y : Int) / 2) 3988292384 = ((y / 2 ^^^ 3988292384 : Nat) : Int) := by
  rw [show (3988292384 : Int) = ((3988292384 : Nat) : Int) from rfl, show (y : Int) / 2 = ((y / 2 : Nat) : Int) by omega, u32_xor_nat _ _ (by omega) (by omega)]

theorem xor_u32 (a b : Nat) (h : a < 4294967296) (h' : b < 4294967296) : bits .xor .u32 (a : Int) (b : Int) = ((a ^^^ b : Nat) : Int) := u32_xor_nat a b h h'

set_option maxHeartbeats 400000 in
set_option maxRecDepth 100000 in
theorem step_any (c b : Nat) (hc : c < 4294967296) (hb : b < 256) (w : World) :
    Calls Try.prog 72 #[.int .u32 c, .int .u8 b] w fun e w' => e = .returned (.int .u32 (cstep c b)) ∧ w = w' := by
  have hx := xor_u32 c b hc (by omega)
  have hxl : c ^^^ b < 4294967296 := Nat.xor_lt_two_pow (n := 32) hc (by omega)
  have HS : Hid (cN 8 (c ^^^ b) = cstep c b) := rfl
  obtain ⟨x, hx'⟩ : ∃ x, x = c ^^^ b := ⟨_, rfl⟩
  rw [← hx'] at hx hxl HS
  clear hx'
  go_enter Try.func72, Try.ntmps72
  go_wp2
  go_loop [5, 11] (fun v i => ∃ k y : Nat, k ≤ 8 ∧ y < 4294967296 ∧ i = .int .i64 k ∧ v = .int .u32 y ∧ Hid (cN (8 - k) y = cstep c b)) (fun _ i => 8 - (intOf i).toNat)
  case atStart => exact ⟨0, x, by omega, hxl, rfl, rfl, HS⟩
  case round =>
    obtain ⟨k, y, hk, hy, rfl, rfl, HY⟩ := hrel
    by_cases hlt : k < 8
    · have HN : Hid (cN (8 - (k + 1)) (c1 y) = cstep c b) := by
        show _ = _
        rw [← HY.out, show 8 - k = (8 - (k + 1)) + 1 by omega]
        rfl
      have t1 := and1_u32 y hy
      have t2 := xor_poly y hy
      have hcl := c1_lt hy
      by_cases hodd : y % 2 = 1
      · have HC : Hid (c1 y = y / 2 ^^^ 3988292384) := by show _ = _; unfold c1; rw [if_pos hodd]
        rw [hodd] at t1
        rw [← HC.out] at t2
        clear hodd
        go_wp2
        go_round
        case rel => exact ⟨k + 1, c1 y, by omega, hcl, by go_num, by go_num, HN⟩
        case measure => simp [intOf]; omega
      · have HC : Hid (c1 y = y / 2) := by show _ = _; unfold c1; rw [if_neg hodd]
        rw [show y % 2 = 0 by omega] at t1
        clear hodd t2
        go_wp2
        go_round
        case rel => exact ⟨k + 1, c1 y, by omega, hcl, by go_num, by rw [HC.out]; go_num, HN⟩
        case measure => simp [intOf]; omega
    · obtain rfl : k = 8 := by omega
      go_wp2
      go_ret
      exact ⟨ret_int (by rw [← HY.out]; rfl), rfl⟩

set_option maxHeartbeats 400000 in
set_option maxRecDepth 100000 in
theorem rstep_any (c b : Nat) (hc : c < 4294967296) (hb : b < 256) (w : World) :
    Calls Try.prog 52 #[.int .u32 c, .int .u8 b] w fun e w' => e = .returned (.int .u32 (cstep c b)) ∧ w = w' := by
  have hx := xor_u32 c b hc (by omega)
  have hxl : c ^^^ b < 4294967296 := Nat.xor_lt_two_pow (n := 32) hc (by omega)
  have HS : Hid (cN 8 (c ^^^ b) = cstep c b) := rfl
  obtain ⟨x, hx'⟩ : ∃ x, x = c ^^^ b := ⟨_, rfl⟩
  rw [← hx'] at hx hxl HS
  clear hx'
  go_enter Try.func52, Try.ntmps52
  go_wp2
  go_loop [5, 6] (fun v i => ∃ k y : Nat, k ≤ 8 ∧ y < 4294967296 ∧ i = .int .i64 k ∧ v = .int .u32 y ∧ Hid (cN (8 - k) y = cstep c b)) (fun _ i => 8 - (intOf i).toNat)
  case atStart => exact ⟨0, x, by omega, hxl, rfl, rfl, HS⟩
  case round =>
    obtain ⟨k, y, hk, hy, rfl, rfl, HY⟩ := hrel
    by_cases hlt : k < 8
    · have HN : Hid (cN (8 - (k + 1)) (c1 y) = cstep c b) := by
        show _ = _
        rw [← HY.out, show 8 - k = (8 - (k + 1)) + 1 by omega]
        rfl
      have t2 := xor_poly y hy
      have hcl := c1_lt hy
      by_cases hodd : y % 2 = 1
      · have HC : Hid (c1 y = y / 2 ^^^ 3988292384) := by show _ = _; unfold c1; rw [if_pos hodd]
        have t1 : ((y : Int) % 2 == 1) = true := by simp; omega
        rw [← HC.out] at t2
        clear hodd
        go_wp2
        go_round
        case rel => exact ⟨k + 1, c1 y, by omega, hcl, by go_num, by go_num, HN⟩
        case measure => simp [intOf]; omega
      · have HC : Hid (c1 y = y / 2) := by show _ = _; unfold c1; rw [if_neg hodd]
        have t1 : ((y : Int) % 2 == 1) = false := by simp; omega
        clear hodd t2
        go_wp2
        go_round
        case rel => exact ⟨k + 1, c1 y, by omega, hcl, by go_num, by rw [HC.out]; go_num, HN⟩
        case measure => simp [intOf]; omega
    · obtain rfl : k = 8 := by omega
      go_wp2
      go_ret
      exact ⟨ret_int (by rw [← HY.out]; rfl), rfl⟩

end Go.Proofs.Ythfkfonfiejbmaa
