/-
  THE WALK OF ValueSizes, out of the contracts.
-/
import Derived.Test.YtmbgdkelghoghaaDoorWValueTells
import Derived.Test.YtmbgdkelghoghaaDoorWValueTakes
namespace Go.Proofs.YtmbgdkelghoghaaDoor
open Go.RowKit

set_option maxHeartbeats 800000 in
set_option maxRecDepth 1000000 in
theorem sizes_out {w : World} (hL : Laid w) (a b c : Int) (l : List UInt8) (s : List UInt8) (hl : l.length ≤ 9223372036854775807) (hs : s.length ≤ 9223372036854775807) (h : 300 < l.length ∨ (l.length ≤ 300 ∧ 300 < s.length)) :
    Calls Tryd.prog 7 #[.agg #[.int .i64 a, .int .i64 b, .int .i64 c, .string ⟨l.toArray⟩], .string ⟨s.toArray⟩] w fun e w' => e = .returned (.bool true) ∧ Below w.heap.size w w' := by
  rcases h with h1 | ⟨h1, h2⟩
  all_goals
    go_enter Tryd.func7, Tryd.ntmps7
    go_wp2_with fail
    refine (live4 _ (hL.later ((Below.refl _ _).alloc (Nat.le_refl _) _))).mono ?_
    rintro e w3 ⟨rfl, hb3⟩
    go_wp2_with fail
    go_ret
    exact ⟨rfl, below2' ((Below.refl _ _).alloc (Nat.le_refl _) _) hb3⟩

set_option maxHeartbeats 800000 in
set_option maxRecDepth 1000000 in
theorem sizes_not {w : World} (hL : Laid w) (a b c : Int) (l : List UInt8) (s : List UInt8) (hl : l.length ≤ 300) (hs : s.length ≤ 300) (hm : vaMay ⟨a, b, c, l⟩ = false) :
    Calls Tryd.prog 7 #[.agg #[.int .i64 a, .int .i64 b, .int .i64 c, .string ⟨l.toArray⟩], .string ⟨s.toArray⟩] w fun e w' => e = .returned (.bool true) ∧ Below w.heap.size w w' := by
  have HM := Lib.hid (may_eq a b c l (by omega) (Lib.hid hm))
  clear hm
  go_enter Tryd.func7, Tryd.ntmps7
  go_wp2_with fail
  refine (HM.out _).mono ?_
  rintro e w1 ⟨rfl, hb1⟩
  have B1 : Hid (Below w.heap.size w w1) := below2' ((Below.refl _ _).alloc (Nat.le_refl _) _) hb1
  have HL := Lib.hid (hL.later B1.out)
  clear hb1 hL
  go_wp2_with fail
  refine (live4 _ HL.out).mono ?_
  rintro e w3 ⟨rfl, hb3⟩
  have B3 := Lib.hid (below2' B1.out hb3)
  clear hb3
  go_wp2_with fail
  go_ret
  exact ⟨rfl, B3.out⟩

set_option maxHeartbeats 3200000 in
set_option maxRecDepth 1000000 in
theorem sizes_in {w : World} (hL : Laid w) (a b c : Int) (l : List UInt8) (s : List UInt8) (hl : l.length ≤ 300) (hs : s.length ≤ 300) (hm : vaMay ⟨a, b, c, l⟩ = true) (r : Bool) (hr : vaMay ⟨a, b, c, s⟩ = r) :
    Calls Tryd.prog 7 #[.agg #[.int .i64 a, .int .i64 b, .int .i64 c, .string ⟨l.toArray⟩], .string ⟨s.toArray⟩] w fun e w' => e = .returned (.bool true) ∧ Below w.heap.size w w' := by
  obtain ⟨h1, h2, h3, h4, h5, h6, h7⟩ := vaMay_parts hm
  simp only at h1 h2 h3 h4 h5 h6 h7
  obtain ⟨n, rfl⟩ := Int.eq_ofNat_of_zero_le h5
  obtain ⟨k, hk⟩ : ∃ k, (vput n).length = k := ⟨_, rfl⟩
  have hk10 := vput_len_le n
  rw [hk] at hk10
  obtain ⟨t, ht⟩ : ∃ t, vaBytes ⟨a, b, n, l⟩ = t := ⟨_, rfl⟩
  have htl := vaBytes_len hm
  have hth := vaBytes_head ⟨a, b, n, l⟩
  simp only [Int.toNat_natCast] at htl hth
  rw [ht, hk] at htl hth
  obtain ⟨H, hH⟩ : ∃ H, [u8of a.toNat, u8of (b + 128).toNat] ++ vput n = H := ⟨_, rfl⟩
  rw [hH] at hth
  have hP : Hid (vaPut ⟨a, b, n, l⟩ = t) := by show _ = _; unfold vaPut; rw [if_pos hm, ht]
  have HM := Lib.hid hm
  have HM1 := Lib.hid (may_eq a b n l (by omega) HM)
  have HR := Lib.hid hr
  have HM2 := Lib.hid (may_eq a b n s (by omega) HR)
  have HSz := Lib.hid (rsize_any n (by omega))
  rw [hk] at HSz
  have hsl1 := fun w => run_slice_bytes_to (P := Tryd.prog) w 9 t (2 + k) (2 + (k : Int)) (by omega) Tryd.underlying9 (by omega)
  rw [show (2 : Nat) + k = 2 + k from rfl, hth] at hsl1
  have e1 : ((t.length : Int) != 3 + (k : Int) + (l.length : Int)) = false := by simp; omega
  have hz0 : (0 : Int) ≤ n := by omega
  cases r with
  | false =>
    have hP2 : Hid (vaPut ⟨a, b, n, s⟩ = []) := by show _ = _; unfold vaPut; rw [if_neg (by rw [hr]; decide)]
    clear hm hr ht hth hH hsl1 h5 hk htl
    go_enter Tryd.func7, Tryd.ntmps7
    go_wp2_with fail
    refine (HM1.out _).mono ?_
    rintro e w1 ⟨rfl, hb1⟩
    have B1 : Hid (Below w.heap.size w w1) := below2' ((Below.refl _ _).alloc (Nat.le_refl _) _) hb1
    have K1 := Lib.hid (one_block hb1)
    obtain ⟨k0, k1, k2, k3⟩ := K1.out
    have hz := World.block_lt_of_cell? w1 _ k0
    simp only at hz
    clear hb1
    go_wp2_with fail
    refine (HSz.out _).mono ?_
    rintro e w2 ⟨rfl, hb2⟩
    have B2 := Lib.hid (below2' B1.out hb2)
    have K2 := Lib.hid (keep4 hb2 K1.out)
    clear hb2 B1 K1 k0 k1 k2 k3 hz
    obtain ⟨k0, k1, k2, k3⟩ := K2.out
    have hz := World.block_lt_of_cell? w2 _ k0
    simp only at hz
    go_wp2_with fail
    refine (vaput_any a b n l (by omega) hP HM _).mono ?_
    rintro e w3 ⟨rfl, hb3⟩
    have B3 := Lib.hid (below2' B2.out hb3)
    have K3 := Lib.hid (keep4 hb3 K2.out)
    clear hb3 B2 K2 k0 k1 k2 k3 hz
    obtain ⟨k0, k1, k2, k3⟩ := K3.out
    have hz := World.block_lt_of_cell? w3 _ k0
    simp only at hz
    go_wp2_with fail
    refine (vaput_any a b n s (by omega) hP2 HR _).mono ?_
    rintro e w4 ⟨rfl, hb4⟩
    have B4 := Lib.hid (below2' (bl_alloc B3.out _) hb4)
    have K4 := Lib.hid (keep4 hb4 (keep4 ((Below.refl _ _).alloc (Nat.le_refl _) _) K3.out))
    have J4 := Lib.hid (one_block hb4)
    clear hb4 B3 K3 k0 k1 k2 k3 hz
    obtain ⟨k0, k1, k2, k3⟩ := K4.out
    obtain ⟨j0, j1, j2, j3⟩ := J4.out
    have hz := World.block_lt_of_cell? w4 _ k0
    have hz2 := World.block_lt_of_cell? w4 _ j0
    simp only at hz hz2
    go_wp2_with fail
    refine (HM2.out _).mono ?_
    rintro e w5 ⟨rfl, hb5⟩
    have B5 := Lib.hid (below2' B4.out hb5)
    have HL5 := Lib.hid (hL.later B5.out)
    clear hb5 B4 K4 J4 k0 k1 k2 k3 j0 j1 j2 j3 hz hz2 hL
    go_wp2_with fail
    refine wp_region_quiet_below (by kernel_rfl) (by kernel_rfl) ?_
    repeat (go_big_quiet_step (first | with_reducible exact rgL HL5.out _ _))
    refine wpQuiet_nil ?_
    intro w6 hw6
    have hb6 := regrown_below hw6
    have HB6 := Lib.hid (below2' B5.out hb6)
    clear hw6 hb6
    go_wp2_with fail
    go_ret
    exact ⟨rfl, HB6.out⟩
  | true =>
    obtain ⟨t2, ht2⟩ : ∃ t, vaBytes ⟨a, b, n, s⟩ = t := ⟨_, rfl⟩
    have hs32 := (vaMay_parts hr).2.2.2.2.2.2
    simp only at hs32
    have htl2 := vaBytes_len hr
    have hth2 := vaBytes_head ⟨a, b, n, s⟩
    have htt2 := vaBytes_tail hr
    simp only [Int.toNat_natCast] at htl2 hth2 htt2
    rw [ht2, hk] at htl2 hth2 htt2
    rw [hH] at hth2
    have hP2 : Hid (vaPut ⟨a, b, n, s⟩ = t2) := by show _ = _; unfold vaPut; rw [if_pos hr, ht2]
    have hsl2 := fun w => run_slice_bytes_to (P := Tryd.prog) w 9 t2 (2 + k) (2 + (k : Int)) (by omega) Tryd.underlying9 (by omega)
    rw [hth2] at hsl2
    have hsl3 := fun w => run_slice_bytes_from (P := Tryd.prog) w 9 t2 (3 + k) (3 + (k : Int)) (by omega) Tryd.underlying9 (by omega)
    rw [htt2] at hsl3
    have e2 : ((t2.length : Int) == 3 + (k : Int) + (s.length : Int)) = true := by simp; omega
    have htl2' : t2.length ≤ 45 := by omega
    have e3 : IntKind.i64.wrap (3 + (k : Int)) = 3 + (k : Int) := IntWalk.i64_in _ (by omega)
    have e4 : IntKind.i64.wrap (2 + (k : Int)) = 2 + (k : Int) := IntWalk.i64_in _ (by omega)
    have e5 : IntKind.i64.wrap (3 + (k : Int) + (s.length : Int)) = 3 + (k : Int) + (s.length : Int) := IntWalk.i64_in _ (by omega)
    clear hm hr ht ht2 hth hth2 htt2 hH h5 hk htl htl2
    go_enter Tryd.func7, Tryd.ntmps7
    go_wp2_with fail
    refine (HM1.out _).mono ?_
    rintro e w1 ⟨rfl, hb1⟩
    have B1 : Hid (Below w.heap.size w w1) := below2' ((Below.refl _ _).alloc (Nat.le_refl _) _) hb1
    have K1 := Lib.hid (one_block hb1)
    obtain ⟨k0, k1, k2, k3⟩ := K1.out
    have hz := World.block_lt_of_cell? w1 _ k0
    simp only at hz
    clear hb1
    go_wp2_with fail
    refine (HSz.out _).mono ?_
    rintro e w2 ⟨rfl, hb2⟩
    have B2 := Lib.hid (below2' B1.out hb2)
    have K2 := Lib.hid (keep4 hb2 K1.out)
    clear hb2 B1 K1 k0 k1 k2 k3 hz
    obtain ⟨k0, k1, k2, k3⟩ := K2.out
    have hz := World.block_lt_of_cell? w2 _ k0
    simp only at hz
    go_wp2_with fail
    refine (vaput_any a b n l (by omega) hP HM _).mono ?_
    rintro e w3 ⟨rfl, hb3⟩
    have B3 := Lib.hid (below2' B2.out hb3)
    have K3 := Lib.hid (keep4 hb3 K2.out)
    clear hb3 B2 K2 k0 k1 k2 k3 hz
    obtain ⟨k0, k1, k2, k3⟩ := K3.out
    have hz := World.block_lt_of_cell? w3 _ k0
    simp only at hz
    go_wp2_with fail
    refine (vaput_any a b n s (by omega) hP2 HR _).mono ?_
    rintro e w4 ⟨rfl, hb4⟩
    have B4 := Lib.hid (below2' (bl_alloc B3.out _) hb4)
    have K4 := Lib.hid (keep4 hb4 (keep4 ((Below.refl _ _).alloc (Nat.le_refl _) _) K3.out))
    have J4 := Lib.hid (one_block hb4)
    clear hb4 B3 K3 k0 k1 k2 k3 hz
    obtain ⟨k0, k1, k2, k3⟩ := K4.out
    obtain ⟨j0, j1, j2, j3⟩ := J4.out
    have hz := World.block_lt_of_cell? w4 _ k0
    have hz2 := World.block_lt_of_cell? w4 _ j0
    simp only at hz hz2
    go_wp2_with fail
    refine (HM2.out _).mono ?_
    rintro e w5 ⟨rfl, hb5⟩
    have B5 := Lib.hid (below2' B4.out hb5)
    have HL5 := Lib.hid (hL.later B5.out)
    clear hb5 B4 K4 J4 k0 k1 k2 k3 j0 j1 j2 j3 hz hz2 hL
    go_wp2_with fail
    refine wp_region_quiet_below (by kernel_rfl) (by kernel_rfl) ?_
    repeat (go_big_quiet_step (first | with_reducible exact rgL HL5.out _ _))
    refine wpQuiet_nil ?_
    intro w6 hw6
    have hb6 := regrown_below hw6
    have HB6 := Lib.hid (below2' B5.out hb6)
    clear hw6 hb6
    go_wp2_with fail
    go_ret
    exact ⟨rfl, HB6.out⟩

set_option maxHeartbeats 400000 in
theorem walkValueSizes {w : World} (hL : Laid w) (a b c : Int) (l : List UInt8) (hl : l.length ≤ maxLen) (s : List UInt8) (hs : s.length ≤ maxLen) :
    Calls Tryd.prog 7 #[.agg #[.int .i64 a, .int .i64 b, .int .i64 c, .string ⟨l.toArray⟩], .string ⟨s.toArray⟩] w fun e w' => e = .returned (.bool true) ∧ Below w.heap.size w w' := by
  unfold maxLen at hl hs
  by_cases h : 300 < l.length ∨ (l.length ≤ 300 ∧ 300 < s.length)
  · exact sizes_out hL a b c l s hl hs h
  · cases hm : vaMay ⟨a, b, c, l⟩ with
    | false => exact sizes_not hL a b c l s (by omega) (by omega) hm
    | true => exact sizes_in hL a b c l s (by omega) (by omega) hm _ rfl

end Go.Proofs.YtmbgdkelghoghaaDoor
