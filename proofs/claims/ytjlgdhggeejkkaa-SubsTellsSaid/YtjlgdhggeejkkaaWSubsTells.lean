/-
  THE WALK OF SubsTells.
-/
import Derived.Test.YtjlgdhggeejkkaaSubLive
namespace Go.Proofs.Ytjlgdhggeejkkaa
open Go.RowKit

theorem regrown_belowS {w w' : World} (h : ∃ p : Regrown, w' = Sort.grow (redrawn w p.d) p.os) : Below w.heap.size w w' := by
  obtain ⟨p, rfl⟩ := h
  exact below_regrown _ _ _

set_option maxHeartbeats 3200000 in
set_option maxRecDepth 100000 in
theorem walkSubsTells {w : World} (a1 a2 a3 a4 a5 b1 b2 b3 b4 b5 : Bool) :
    Calls Try.prog 3 #[.agg #[.bool a1, .bool a2, .bool a3, .bool a4, .bool a5], .agg #[.bool b1, .bool b2, .bool b3, .bool b4, .bool b5]] w fun e w' => e = .returned (.bool true) ∧ Below w.heap.size w w' := by
  have T := twoAt w ⟨a1, a2, a3, a4, a5⟩ ⟨b1, b2, b3, b4, b5⟩ 23 23
  simp only [ItAt] at T
  have g00 := cell_regrown (w := (w.alloc (.cells #[.bool a1, .bool a2, .bool a3, .bool a4, .bool a5] 23)).alloc (.cells #[.bool b1, .bool b2, .bool b3, .bool b4, .bool b5] 23)) (a := ⟨w.heap.size, 0, none⟩) (v := .bool a1) (T.1.1)
  have g01 := cell_regrown (w := (w.alloc (.cells #[.bool a1, .bool a2, .bool a3, .bool a4, .bool a5] 23)).alloc (.cells #[.bool b1, .bool b2, .bool b3, .bool b4, .bool b5] 23)) (a := ⟨w.heap.size, 1, none⟩) (v := .bool a2) (T.1.2.1)
  have g02 := cell_regrown (w := (w.alloc (.cells #[.bool a1, .bool a2, .bool a3, .bool a4, .bool a5] 23)).alloc (.cells #[.bool b1, .bool b2, .bool b3, .bool b4, .bool b5] 23)) (a := ⟨w.heap.size, 2, none⟩) (v := .bool a3) (T.1.2.2.1)
  have g03 := cell_regrown (w := (w.alloc (.cells #[.bool a1, .bool a2, .bool a3, .bool a4, .bool a5] 23)).alloc (.cells #[.bool b1, .bool b2, .bool b3, .bool b4, .bool b5] 23)) (a := ⟨w.heap.size, 3, none⟩) (v := .bool a4) (T.1.2.2.2.1)
  have g04 := cell_regrown (w := (w.alloc (.cells #[.bool a1, .bool a2, .bool a3, .bool a4, .bool a5] 23)).alloc (.cells #[.bool b1, .bool b2, .bool b3, .bool b4, .bool b5] 23)) (a := ⟨w.heap.size, 4, none⟩) (v := .bool a5) (T.1.2.2.2.2)
  have g10 := cell_regrown (w := (w.alloc (.cells #[.bool a1, .bool a2, .bool a3, .bool a4, .bool a5] 23)).alloc (.cells #[.bool b1, .bool b2, .bool b3, .bool b4, .bool b5] 23)) (a := ⟨w.heap.size + 1, 0, none⟩) (v := .bool b1) (T.2.1)
  have g11 := cell_regrown (w := (w.alloc (.cells #[.bool a1, .bool a2, .bool a3, .bool a4, .bool a5] 23)).alloc (.cells #[.bool b1, .bool b2, .bool b3, .bool b4, .bool b5] 23)) (a := ⟨w.heap.size + 1, 1, none⟩) (v := .bool b2) (T.2.2.1)
  have g12 := cell_regrown (w := (w.alloc (.cells #[.bool a1, .bool a2, .bool a3, .bool a4, .bool a5] 23)).alloc (.cells #[.bool b1, .bool b2, .bool b3, .bool b4, .bool b5] 23)) (a := ⟨w.heap.size + 1, 2, none⟩) (v := .bool b3) (T.2.2.2.1)
  have g13 := cell_regrown (w := (w.alloc (.cells #[.bool a1, .bool a2, .bool a3, .bool a4, .bool a5] 23)).alloc (.cells #[.bool b1, .bool b2, .bool b3, .bool b4, .bool b5] 23)) (a := ⟨w.heap.size + 1, 3, none⟩) (v := .bool b4) (T.2.2.2.2.1)
  have g14 := cell_regrown (w := (w.alloc (.cells #[.bool a1, .bool a2, .bool a3, .bool a4, .bool a5] 23)).alloc (.cells #[.bool b1, .bool b2, .bool b3, .bool b4, .bool b5] 23)) (a := ⟨w.heap.size + 1, 4, none⟩) (v := .bool b5) (T.2.2.2.2.2)
  obtain ⟨m, hm⟩ : ∃ m, suMay ⟨a1, a2, a3, a4, a5⟩ ⟨b1, b2, b3, b4, b5⟩ = m := ⟨_, rfl⟩
  obtain ⟨s, hs⟩ : ∃ s, suSees ⟨a1, a2, a3, a4, a5⟩ ⟨b1, b2, b3, b4, b5⟩ = s := ⟨_, rfl⟩
  obtain ⟨z, hz⟩ : ∃ z, suEmpty ⟨a1, a2, a3, a4, a5⟩ = z := ⟨_, rfl⟩
  obtain ⟨n, hn⟩ : ∃ n, suName ⟨a1, a2, a3, a4, a5⟩ = n := ⟨_, rfl⟩
  have M1 := Lib.hid (smay_bl a1 a2 a3 a4 a5 b1 b2 b3 b4 b5 hm)
  have M2 := Lib.hid (rsmay_bl a1 a2 a3 a4 a5 b1 b2 b3 b4 b5 hm)
  have S1 := Lib.hid (ssees_eq a1 a2 a3 a4 a5 b1 b2 b3 b4 b5 hs)
  have S2 := Lib.hid (rssees_eq a1 a2 a3 a4 a5 b1 b2 b3 b4 b5 hs)
  have Z1 := Lib.hid (sempty_eq a1 a2 a3 a4 a5 hz)
  have Z2 := Lib.hid (rsempty_eq a1 a2 a3 a4 a5 hz)
  have N1 := Lib.hid (sname_eq a1 a2 a3 a4 a5 hn)
  have N2 := Lib.hid (rsname_eq a1 a2 a3 a4 a5 hn)
  have L7 := Lib.hid live7
  have B0 : Hid (Below w.heap.size w ((w.alloc (.cells #[.bool a1, .bool a2, .bool a3, .bool a4, .bool a5] 23)).alloc (.cells #[.bool b1, .bool b2, .bool b3, .bool b4, .bool b5] 23))) := Lib.hid (((Below.refl _ _).alloc (Nat.le_refl _) _).alloc (by simp) _)
  clear hm hs hz hn T
  go_enter Try.func3, Try.ntmps3
  go_wp2_with fail
  refine wp_region_quiet_below (by kernel_rfl) (by kernel_rfl) ?_
  repeat (go_big_quiet_step (first | with_reducible exact rgB M1.out _ _ _ | with_reducible exact rgB M2.out _ _ _ | with_reducible exact rgB S1.out _ _ _ | with_reducible exact rgB S2.out _ _ _ | with_reducible exact rgB Z1.out _ _ _ | with_reducible exact rgB Z2.out _ _ _ | with_reducible exact rgB N1.out _ _ _ | with_reducible exact rgB N2.out _ _ _ | with_reducible exact rgB L7.out _ _ _))
  refine wpQuiet_nil ?_
  intro w5 hw5
  have B5 := Lib.hid (below2S B0.out (regrown_belowS hw5))
  clear hw5 g00 g01 g02 g03 g04 g10 g11 g12 g13 g14
  go_wp2_with fail
  go_ret
  exact ⟨rfl, B5.out⟩

end Go.Proofs.Ytjlgdhggeejkkaa
