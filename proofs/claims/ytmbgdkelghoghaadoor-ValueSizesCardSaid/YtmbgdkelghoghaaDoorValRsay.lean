/-
  THE CONTRACTS OF THE DOCUMENT'S ANSWERS TO Say AND Hear.
-/
import Derived.Test.YtmbgdkelghoghaaDoorValSay
namespace Go.Proofs.YtmbgdkelghoghaaDoor
open Go.RowKit

/-- A new row of the words. -/
def wordRow (w : World) : World := w.alloc (.cells #[.string ⟨#[111, 102, 102]⟩, .string ⟨#[103, 111, 110, 101]⟩, .string ⟨#[97, 119, 97, 121]⟩, .string ⟨#[98, 117, 115, 121]⟩, .string ⟨#[111, 110, 108, 105, 110, 101]⟩] 9)

theorem wordRow_below {w a : World} (h : Below w.heap.size w a) : Below w.heap.size w (wordRow a) := h.alloc h.size _

theorem wordRow_size (a : World) : (wordRow a).heap.size = a.heap.size + 1 := by simp [wordRow]

theorem wordRow_cells (a : World) : (wordRow a).cell? ⟨a.heap.size, 0, none⟩ = some (.string ⟨#[111, 102, 102]⟩) ∧ (wordRow a).cell? ⟨a.heap.size, 1, none⟩ = some (.string ⟨#[103, 111, 110, 101]⟩) ∧ (wordRow a).cell? ⟨a.heap.size, 2, none⟩ = some (.string ⟨#[97, 119, 97, 121]⟩) ∧ (wordRow a).cell? ⟨a.heap.size, 3, none⟩ = some (.string ⟨#[98, 117, 115, 121]⟩) ∧ (wordRow a).cell? ⟨a.heap.size, 4, none⟩ = some (.string ⟨#[111, 110, 108, 105, 110, 101]⟩) := by
  unfold wordRow
  refine ⟨?_, ?_, ?_, ?_, ?_⟩ <;> (rw [World.cell?_alloc_at _ _ _ _ rfl]; rfl)

set_option maxHeartbeats 400000 in
set_option maxRecDepth 100000 in
theorem names_any (w : World) : Calls Tryd.prog 24 #[] w fun e w' => e = .returned (.slice (some ⟨w.heap.size, 0, none⟩) 5 5) ∧ wordRow w = w' := by
  go_enter Tryd.func24, Tryd.ntmps24
  go_wp2_with fail
  go_ret
  exact ⟨rfl, rfl⟩

set_option maxHeartbeats 400000 in
set_option maxRecDepth 100000 in
theorem rsay_any (n : Int) {t : List UInt8} {r : Bool} (ht : Hid (vaSay n = (t, r))) (w : World) :
    Calls Tryd.prog 12 #[.int .i64 n] w fun e w' => e = .returned (.tuple #[.string ⟨t.toArray⟩, .bool r]) ∧ Below w.heap.size w w' := by
  by_cases h : n < 0 ∨ 4 < n
  · have HR : Hid (vaSay n = ([], false)) := by show _ = _; unfold vaSay; rw [if_pos h]
    have e := HR.out.symm.trans ht.out
    simp only [Prod.mk.injEq] at e
    obtain ⟨rfl, rfl⟩ := e
    clear ht HR
    rcases h with h | h
    all_goals
      go_enter Tryd.func12, Tryd.ntmps12
      go_wp2_with fail
      go_ret2
      exact ⟨rfl, Below.refl _ _⟩
  · have hn : n = 0 ∨ n = 1 ∨ n = 2 ∨ n = 3 ∨ n = 4 := by omega
    rcases hn with rfl | rfl | rfl | rfl | rfl
    all_goals
      have e := ht.out
      simp [vaSay, shows] at e
      obtain ⟨rfl, rfl⟩ := e
      clear ht h
      go_enter Tryd.func12, Tryd.ntmps12
      go_wp2_with fail
      refine (names_any _).mono ?_
      rintro e w1 ⟨rfl, hw1⟩
      have HB : Hid (Below w.heap.size w w1) := by rw [← hw1]; exact wordRow_below (Below.refl _ _)
      obtain ⟨k0, k1, k2, k3, k4⟩ := wordRow_cells w
      rw [hw1] at k0 k1 k2 k3 k4
      clear hw1
      go_wp2_with fail
      go_ret2
      exact ⟨rfl, HB.out⟩

set_option maxHeartbeats 3200000 in
set_option maxRecDepth 100000 in
theorem rhear_any (l : List UInt8) {n : Nat} {r : Bool} (ht : Hid (vaHear l = (n, r))) (w : World) :
    Calls Tryd.prog 14 #[.string ⟨l.toArray⟩] w fun e w' => e = .returned (.tuple #[.int .i64 n, .bool r]) ∧ Below w.heap.size w w' := by
  have hc := vaHear_cases l ht.out
  clear ht
  have HB0 : Hid (Below w.heap.size w w) := Below.refl _ _
  rcases hc with ⟨b0, rfl, rfl⟩ | ⟨b0, b1, rfl, rfl⟩ | ⟨b0, b1, b2, rfl, rfl⟩ | ⟨b0, b1, b2, b3, rfl, rfl⟩ | ⟨b0, b1, b2, b3, b4, rfl, rfl⟩ | ⟨b0, b1, b2, b3, b4, rfl, rfl⟩
  · go_enter Tryd.func14, Tryd.ntmps14
    go_wp2_with fail
    refine wp_loop_rounds 6 ?_
    rw [rounds_succ]
    go_wp2_with fail
    refine (names_any _).mono ?_
    rintro e w1 ⟨rfl, hw1⟩
    have HB1 : Hid (Below w.heap.size w w1) := by rw [← hw1]; exact wordRow_below HB0.out
    obtain ⟨k0, k1, k2, k3, k4⟩ := wordRow_cells w
    rw [hw1] at k0 k1 k2 k3 k4
    clear hw1
    go_wp2_with fail
    clear k0 k1 k2 k3 k4
    go_ret2
    exact ⟨rfl, HB1.out⟩
  · go_enter Tryd.func14, Tryd.ntmps14
    go_wp2_with fail
    refine wp_loop_rounds 6 ?_
    rw [rounds_succ]
    go_wp2_with fail
    refine (names_any _).mono ?_
    rintro e w1 ⟨rfl, hw1⟩
    have HB1 : Hid (Below w.heap.size w w1) := by rw [← hw1]; exact wordRow_below HB0.out
    obtain ⟨k0, k1, k2, k3, k4⟩ := wordRow_cells w
    rw [hw1] at k0 k1 k2 k3 k4
    clear hw1
    go_wp2_with fail
    clear k0 k1 k2 k3 k4
    rw [rounds_succ]
    go_wp2_with fail
    refine (names_any _).mono ?_
    rintro e w2 ⟨rfl, hw2⟩
    have HB2 : Hid (Below w.heap.size w w2) := by rw [← hw2]; exact wordRow_below HB1.out
    obtain ⟨k0, k1, k2, k3, k4⟩ := wordRow_cells w1
    rw [hw2] at k0 k1 k2 k3 k4
    clear hw2
    go_wp2_with fail
    clear k0 k1 k2 k3 k4
    go_ret2
    exact ⟨rfl, HB2.out⟩
  · go_enter Tryd.func14, Tryd.ntmps14
    go_wp2_with fail
    refine wp_loop_rounds 6 ?_
    rw [rounds_succ]
    go_wp2_with fail
    refine (names_any _).mono ?_
    rintro e w1 ⟨rfl, hw1⟩
    have HB1 : Hid (Below w.heap.size w w1) := by rw [← hw1]; exact wordRow_below HB0.out
    obtain ⟨k0, k1, k2, k3, k4⟩ := wordRow_cells w
    rw [hw1] at k0 k1 k2 k3 k4
    clear hw1
    go_wp2_with fail
    clear k0 k1 k2 k3 k4
    rw [rounds_succ]
    go_wp2_with fail
    refine (names_any _).mono ?_
    rintro e w2 ⟨rfl, hw2⟩
    have HB2 : Hid (Below w.heap.size w w2) := by rw [← hw2]; exact wordRow_below HB1.out
    obtain ⟨k0, k1, k2, k3, k4⟩ := wordRow_cells w1
    rw [hw2] at k0 k1 k2 k3 k4
    clear hw2
    go_wp2_with fail
    clear k0 k1 k2 k3 k4
    rw [rounds_succ]
    go_wp2_with fail
    refine (names_any _).mono ?_
    rintro e w3 ⟨rfl, hw3⟩
    have HB3 : Hid (Below w.heap.size w w3) := by rw [← hw3]; exact wordRow_below HB2.out
    obtain ⟨k0, k1, k2, k3, k4⟩ := wordRow_cells w2
    rw [hw3] at k0 k1 k2 k3 k4
    clear hw3
    go_wp2_with fail
    clear k0 k1 k2 k3 k4
    go_ret2
    exact ⟨rfl, HB3.out⟩
  · go_enter Tryd.func14, Tryd.ntmps14
    go_wp2_with fail
    refine wp_loop_rounds 6 ?_
    rw [rounds_succ]
    go_wp2_with fail
    refine (names_any _).mono ?_
    rintro e w1 ⟨rfl, hw1⟩
    have HB1 : Hid (Below w.heap.size w w1) := by rw [← hw1]; exact wordRow_below HB0.out
    obtain ⟨k0, k1, k2, k3, k4⟩ := wordRow_cells w
    rw [hw1] at k0 k1 k2 k3 k4
    clear hw1
    go_wp2_with fail
    clear k0 k1 k2 k3 k4
    rw [rounds_succ]
    go_wp2_with fail
    refine (names_any _).mono ?_
    rintro e w2 ⟨rfl, hw2⟩
    have HB2 : Hid (Below w.heap.size w w2) := by rw [← hw2]; exact wordRow_below HB1.out
    obtain ⟨k0, k1, k2, k3, k4⟩ := wordRow_cells w1
    rw [hw2] at k0 k1 k2 k3 k4
    clear hw2
    go_wp2_with fail
    clear k0 k1 k2 k3 k4
    rw [rounds_succ]
    go_wp2_with fail
    refine (names_any _).mono ?_
    rintro e w3 ⟨rfl, hw3⟩
    have HB3 : Hid (Below w.heap.size w w3) := by rw [← hw3]; exact wordRow_below HB2.out
    obtain ⟨k0, k1, k2, k3, k4⟩ := wordRow_cells w2
    rw [hw3] at k0 k1 k2 k3 k4
    clear hw3
    go_wp2_with fail
    clear k0 k1 k2 k3 k4
    rw [rounds_succ]
    go_wp2_with fail
    refine (names_any _).mono ?_
    rintro e w4 ⟨rfl, hw4⟩
    have HB4 : Hid (Below w.heap.size w w4) := by rw [← hw4]; exact wordRow_below HB3.out
    obtain ⟨k0, k1, k2, k3, k4⟩ := wordRow_cells w3
    rw [hw4] at k0 k1 k2 k3 k4
    clear hw4
    go_wp2_with fail
    clear k0 k1 k2 k3 k4
    go_ret2
    exact ⟨rfl, HB4.out⟩
  · go_enter Tryd.func14, Tryd.ntmps14
    go_wp2_with fail
    refine wp_loop_rounds 6 ?_
    rw [rounds_succ]
    go_wp2_with fail
    refine (names_any _).mono ?_
    rintro e w1 ⟨rfl, hw1⟩
    have HB1 : Hid (Below w.heap.size w w1) := by rw [← hw1]; exact wordRow_below HB0.out
    obtain ⟨k0, k1, k2, k3, k4⟩ := wordRow_cells w
    rw [hw1] at k0 k1 k2 k3 k4
    clear hw1
    go_wp2_with fail
    clear k0 k1 k2 k3 k4
    rw [rounds_succ]
    go_wp2_with fail
    refine (names_any _).mono ?_
    rintro e w2 ⟨rfl, hw2⟩
    have HB2 : Hid (Below w.heap.size w w2) := by rw [← hw2]; exact wordRow_below HB1.out
    obtain ⟨k0, k1, k2, k3, k4⟩ := wordRow_cells w1
    rw [hw2] at k0 k1 k2 k3 k4
    clear hw2
    go_wp2_with fail
    clear k0 k1 k2 k3 k4
    rw [rounds_succ]
    go_wp2_with fail
    refine (names_any _).mono ?_
    rintro e w3 ⟨rfl, hw3⟩
    have HB3 : Hid (Below w.heap.size w w3) := by rw [← hw3]; exact wordRow_below HB2.out
    obtain ⟨k0, k1, k2, k3, k4⟩ := wordRow_cells w2
    rw [hw3] at k0 k1 k2 k3 k4
    clear hw3
    go_wp2_with fail
    clear k0 k1 k2 k3 k4
    rw [rounds_succ]
    go_wp2_with fail
    refine (names_any _).mono ?_
    rintro e w4 ⟨rfl, hw4⟩
    have HB4 : Hid (Below w.heap.size w w4) := by rw [← hw4]; exact wordRow_below HB3.out
    obtain ⟨k0, k1, k2, k3, k4⟩ := wordRow_cells w3
    rw [hw4] at k0 k1 k2 k3 k4
    clear hw4
    go_wp2_with fail
    clear k0 k1 k2 k3 k4
    rw [rounds_succ]
    go_wp2_with fail
    refine (names_any _).mono ?_
    rintro e w5 ⟨rfl, hw5⟩
    have HB5 : Hid (Below w.heap.size w w5) := by rw [← hw5]; exact wordRow_below HB4.out
    obtain ⟨k0, k1, k2, k3, k4⟩ := wordRow_cells w4
    rw [hw5] at k0 k1 k2 k3 k4
    clear hw5
    go_wp2_with fail
    clear k0 k1 k2 k3 k4
    go_ret2
    exact ⟨rfl, HB5.out⟩
  · go_enter Tryd.func14, Tryd.ntmps14
    go_wp2_with fail
    refine wp_loop_rounds 6 ?_
    rw [rounds_succ]
    go_wp2_with fail
    refine (names_any _).mono ?_
    rintro e w1 ⟨rfl, hw1⟩
    have HB1 : Hid (Below w.heap.size w w1) := by rw [← hw1]; exact wordRow_below HB0.out
    obtain ⟨k0, k1, k2, k3, k4⟩ := wordRow_cells w
    rw [hw1] at k0 k1 k2 k3 k4
    clear hw1
    go_wp2_with fail
    clear k0 k1 k2 k3 k4
    rw [rounds_succ]
    go_wp2_with fail
    refine (names_any _).mono ?_
    rintro e w2 ⟨rfl, hw2⟩
    have HB2 : Hid (Below w.heap.size w w2) := by rw [← hw2]; exact wordRow_below HB1.out
    obtain ⟨k0, k1, k2, k3, k4⟩ := wordRow_cells w1
    rw [hw2] at k0 k1 k2 k3 k4
    clear hw2
    go_wp2_with fail
    clear k0 k1 k2 k3 k4
    rw [rounds_succ]
    go_wp2_with fail
    refine (names_any _).mono ?_
    rintro e w3 ⟨rfl, hw3⟩
    have HB3 : Hid (Below w.heap.size w w3) := by rw [← hw3]; exact wordRow_below HB2.out
    obtain ⟨k0, k1, k2, k3, k4⟩ := wordRow_cells w2
    rw [hw3] at k0 k1 k2 k3 k4
    clear hw3
    go_wp2_with fail
    clear k0 k1 k2 k3 k4
    rw [rounds_succ]
    go_wp2_with fail
    refine (names_any _).mono ?_
    rintro e w4 ⟨rfl, hw4⟩
    have HB4 : Hid (Below w.heap.size w w4) := by rw [← hw4]; exact wordRow_below HB3.out
    obtain ⟨k0, k1, k2, k3, k4⟩ := wordRow_cells w3
    rw [hw4] at k0 k1 k2 k3 k4
    clear hw4
    go_wp2_with fail
    clear k0 k1 k2 k3 k4
    rw [rounds_succ]
    go_wp2_with fail
    refine (names_any _).mono ?_
    rintro e w5 ⟨rfl, hw5⟩
    have HB5 : Hid (Below w.heap.size w w5) := by rw [← hw5]; exact wordRow_below HB4.out
    obtain ⟨k0, k1, k2, k3, k4⟩ := wordRow_cells w4
    rw [hw5] at k0 k1 k2 k3 k4
    clear hw5
    go_wp2_with fail
    clear k0 k1 k2 k3 k4
    rw [rounds_succ]
    go_wp2_with fail
    go_ret2
    exact ⟨rfl, HB5.out⟩

end Go.Proofs.YtmbgdkelghoghaaDoor
