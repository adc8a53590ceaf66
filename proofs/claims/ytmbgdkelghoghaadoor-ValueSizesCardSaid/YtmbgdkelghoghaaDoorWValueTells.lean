/-
  THE WALK OF ValueTells, out of the contracts.
-/
import Derived.Test.YtmbgdkelghoghaaDoorValLive
namespace Go.Proofs.YtmbgdkelghoghaaDoor
open Go.RowKit

/-- live, in a region that draws its order. -/
theorem rgL {w : World} (hL : Laid w) (d : Nat) (os : Array Obj) :
    Calls Tryd.prog 8 #[] (Sort.grow (redrawn w d) os) fun e w'' => e = .returned (.bool true) ∧ ∃ p : Regrown, w'' = Sort.grow (redrawn w p.d) p.os :=
  Calls.regrown_of (live4 _ (hL.later (below_regrown w d os)))

set_option maxHeartbeats 1600000 in
set_option maxRecDepth 1000000 in
theorem valueTells_in {w : World} (hL : Laid w) (a b c : Int) (l : List UInt8) (hl : l.length ≤ 300) (n : Int) (s : List UInt8) (hs : s.length ≤ 300) :
    Calls Tryd.prog 3 #[.agg #[.int .i64 a, .int .i64 b, .int .i64 c, .string ⟨l.toArray⟩], .int .i64 n, .string ⟨s.toArray⟩] w fun e w' => e = .returned (.bool true) ∧ Below w.heap.size w w' := by
  have hl' : l.length ≤ 4294967296 := by omega
  have hs' : s.length ≤ 4294967296 := by omega
  obtain ⟨t, ht⟩ : ∃ t, Hid (vaPut ⟨a, b, c, l⟩ = t) := ⟨_, rfl⟩
  obtain ⟨r, hr⟩ : ∃ r, Hid (vaMay ⟨a, b, c, l⟩ = r) := ⟨_, rfl⟩
  obtain ⟨u, ur, hu⟩ : ∃ u ur, Hid (vaSay n = (u, ur)) := ⟨_, _, rfl⟩
  obtain ⟨m, mr, hm⟩ : ∃ m mr, Hid (vaHear s = (m, mr)) := ⟨_, _, rfl⟩
  have HM1 := Lib.hid (may_eq a b c l hl' hr)
  have HM2 := Lib.hid (rmay_eq a b c l hl' hr)
  go_enter Tryd.func3, Tryd.ntmps3
  go_wp2_with fail
  refine (vaput_any a b c l hl' ht hr _).mono ?_
  rintro e w1 ⟨rfl, hb1⟩
  have B1 : Hid (Below w.heap.size w w1) := below2' ((Below.refl _ _).alloc (Nat.le_refl _) _) hb1
  have K1 := Lib.hid (keep4 hb1 (four_cells w (.int .i64 a) (.int .i64 b) (.int .i64 c) (.string ⟨l.toArray⟩) 23))
  clear hb1
  obtain ⟨k0, k1, k2, k3⟩ := K1.out
  have hz := World.block_lt_of_cell? w1 _ k0
  simp only at hz
  go_wp2_with fail
  refine (rvaput_any a b c l hl' ht hr _).mono ?_
  rintro e w2 ⟨rfl, hb2⟩
  have B2 := Lib.hid (below2' B1.out hb2)
  have K2 := Lib.hid (keep4 hb2 K1.out)
  clear hb2 k0 k1 k2 k3 hz K1 B1
  go_wp2_with fail
  refine (say_any n hu _ (hL.later B2.out)).mono ?_
  rintro e w' ⟨rfl, rfl⟩
  go_wp2_with fail
  refine (rsay_any n hu _).mono ?_
  rintro e w3 ⟨rfl, hb3⟩
  have B3 := Lib.hid (below2' B2.out hb3)
  have K3 := Lib.hid (keep4 hb3 K2.out)
  clear hb3 K2 B2
  go_wp2_with fail
  refine (hear_any s hs' hm _ (hL.later B3.out)).mono ?_
  rintro e w' ⟨rfl, rfl⟩
  go_wp2_with fail
  refine (rhear_any s hm _).mono ?_
  rintro e w4 ⟨rfl, hb4⟩
  have B4 := Lib.hid (below2' B3.out hb4)
  have K4 := Lib.hid (keep4 hb4 K3.out)
  have HL := Lib.hid (hL.later B4.out)
  clear hb4 K3 B3 hL
  obtain ⟨k0, k1, k2, k3⟩ := K4.out
  have g0 := cell_regrown k0
  have g1 := cell_regrown k1
  have g2 := cell_regrown k2
  have g3 := cell_regrown k3
  clear k0 k1 k2 k3
  go_wp2_with fail
  refine wp_region_quiet_below (by kernel_rfl) (by kernel_rfl) ?_
  repeat (go_big_quiet_step (first | with_reducible exact rgB HM1.out _ _ _ | with_reducible exact rgB HM2.out _ _ _ | with_reducible exact rgL HL.out _ _))
  refine wpQuiet_nil ?_
  intro w5 hw5
  have hb5 := regrown_below hw5
  have HB5 := Lib.hid (below2' B4.out hb5)
  clear hw5 hb5 g0 g1 g2 g3
  go_wp2_with fail
  go_ret
  exact ⟨rfl, HB5.out⟩

set_option maxHeartbeats 800000 in
set_option maxRecDepth 1000000 in
theorem walkValueTells {w : World} (hL : Laid w) (a b c : Int) (l : List UInt8) (hl : l.length ≤ maxLen) (n : Int) (_ : (Lit.int .i64 n).wf = true) (s : List UInt8) (hs : s.length ≤ maxLen) :
    Calls Tryd.prog 3 #[.agg #[.int .i64 a, .int .i64 b, .int .i64 c, .string ⟨l.toArray⟩], .int .i64 n, .string ⟨s.toArray⟩] w fun e w' => e = .returned (.bool true) ∧ Below w.heap.size w w' := by
  unfold maxLen at hl hs
  by_cases h : 300 < l.length
  · go_enter Tryd.func3, Tryd.ntmps3
    go_wp2_with fail
    refine (live4 _ (hL.later ((Below.refl _ _).alloc (Nat.le_refl _) _))).mono ?_
    rintro e w3 ⟨rfl, hb3⟩
    go_wp2_with fail
    go_ret
    exact ⟨rfl, below2' ((Below.refl _ _).alloc (Nat.le_refl _) _) hb3⟩
  · by_cases h' : 300 < s.length
    · go_enter Tryd.func3, Tryd.ntmps3
      go_wp2_with fail
      refine (live4 _ (hL.later ((Below.refl _ _).alloc (Nat.le_refl _) _))).mono ?_
      rintro e w3 ⟨rfl, hb3⟩
      go_wp2_with fail
      go_ret
      exact ⟨rfl, below2' ((Below.refl _ _).alloc (Nat.le_refl _) _) hb3⟩
    · exact valueTells_in hL a b c l (by omega) n s (by omega)

end Go.Proofs.YtmbgdkelghoghaaDoor
