/-
  THE CONTRACTS OF value.Say, Hear AND OF THE DOCUMENT'S ANSWERS TO THEM. Of the shows' words: what the package's array holds, is a condition on the world ('Laid').
-/
import Derived.Test.YtmbgdkelghoghaaDoorValPut
namespace Go.Proofs.YtmbgdkelghoghaaDoor
open Go.RowKit

/-- The package's array holds the shows' words. -/
def Laid (w : World) : Prop := ∀ i, i < 5 → w.cell? ⟨0, i, none⟩ = some (.string ⟨(shows.getD i []).toArray⟩)

theorem Laid.later {w w' : World} (h : Laid w) (hb : Below w.heap.size w w') : Laid w' := fun i hi => cell_later (h i hi) hb

theorem Laid.five {w : World} (h : Laid w) : w.cell? ⟨0, 0, none⟩ = some (.string ⟨#[111, 102, 102]⟩) ∧ w.cell? ⟨0, 1, none⟩ = some (.string ⟨#[103, 111, 110, 101]⟩) ∧
    w.cell? ⟨0, 2, none⟩ = some (.string ⟨#[97, 119, 97, 121]⟩) ∧ w.cell? ⟨0, 3, none⟩ = some (.string ⟨#[98, 117, 115, 121]⟩) ∧ w.cell? ⟨0, 4, none⟩ = some (.string ⟨#[111, 110, 108, 105, 110, 101]⟩) :=
  ⟨h 0 (by decide), h 1 (by decide), h 2 (by decide), h 3 (by decide), h 4 (by decide)⟩

set_option maxHeartbeats 400000 in
set_option maxRecDepth 100000 in
theorem say_any (n : Int) {t : List UInt8} {r : Bool} (ht : Hid (vaSay n = (t, r))) (w : World) (hL : Laid w) :
    Calls Tryd.prog 11 #[.int .i64 n] w fun e w' => e = .returned (.tuple #[.string ⟨t.toArray⟩, .bool r]) ∧ w = w' := by
  by_cases h : n < 0 ∨ 4 < n
  · have HR : Hid (vaSay n = ([], false)) := by show _ = _; unfold vaSay; rw [if_pos h]
    have e := HR.out.symm.trans ht.out
    simp only [Prod.mk.injEq] at e
    obtain ⟨rfl, rfl⟩ := e
    clear ht HR
    rcases h with h | h
    all_goals
      go_enter Tryd.func11, Tryd.ntmps11
      go_wp2_with fail
      go_ret2
      exact ⟨rfl, rfl⟩
  · obtain ⟨k0, k1, k2, k3, k4⟩ := hL.five
    clear hL
    have hn : n = 0 ∨ n = 1 ∨ n = 2 ∨ n = 3 ∨ n = 4 := by omega
    rcases hn with rfl | rfl | rfl | rfl | rfl
    all_goals
      have e := ht.out
      simp [vaSay, shows] at e
      obtain ⟨rfl, rfl⟩ := e
      clear ht h
      go_enter Tryd.func11, Tryd.ntmps11
      go_wp2_with fail
      go_ret2
      exact ⟨rfl, rfl⟩

/-- The array of the words, by value. -/
theorem word0_at (w : World) : (Instr.index 44 (.agg #[.string ⟨#[111, 102, 102]⟩, .string ⟨#[103, 111, 110, 101]⟩, .string ⟨#[97, 119, 97, 121]⟩, .string ⟨#[98, 117, 115, 121]⟩, .string ⟨#[111, 110, 108, 105, 110, 101]⟩]) (.int .i64 0)).run Tryd.prog w = .ok (.string ⟨#[111, 102, 102]⟩) w := by kernel_rfl

theorem word1_at (w : World) : (Instr.index 44 (.agg #[.string ⟨#[111, 102, 102]⟩, .string ⟨#[103, 111, 110, 101]⟩, .string ⟨#[97, 119, 97, 121]⟩, .string ⟨#[98, 117, 115, 121]⟩, .string ⟨#[111, 110, 108, 105, 110, 101]⟩]) (.int .i64 1)).run Tryd.prog w = .ok (.string ⟨#[103, 111, 110, 101]⟩) w := by kernel_rfl

theorem word2_at (w : World) : (Instr.index 44 (.agg #[.string ⟨#[111, 102, 102]⟩, .string ⟨#[103, 111, 110, 101]⟩, .string ⟨#[97, 119, 97, 121]⟩, .string ⟨#[98, 117, 115, 121]⟩, .string ⟨#[111, 110, 108, 105, 110, 101]⟩]) (.int .i64 2)).run Tryd.prog w = .ok (.string ⟨#[97, 119, 97, 121]⟩) w := by kernel_rfl

theorem word3_at (w : World) : (Instr.index 44 (.agg #[.string ⟨#[111, 102, 102]⟩, .string ⟨#[103, 111, 110, 101]⟩, .string ⟨#[97, 119, 97, 121]⟩, .string ⟨#[98, 117, 115, 121]⟩, .string ⟨#[111, 110, 108, 105, 110, 101]⟩]) (.int .i64 3)).run Tryd.prog w = .ok (.string ⟨#[98, 117, 115, 121]⟩) w := by kernel_rfl

theorem word4_at (w : World) : (Instr.index 44 (.agg #[.string ⟨#[111, 102, 102]⟩, .string ⟨#[103, 111, 110, 101]⟩, .string ⟨#[97, 119, 97, 121]⟩, .string ⟨#[98, 117, 115, 121]⟩, .string ⟨#[111, 110, 108, 105, 110, 101]⟩]) (.int .i64 4)).run Tryd.prog w = .ok (.string ⟨#[111, 110, 108, 105, 110, 101]⟩) w := by kernel_rfl

theorem vaHear_cases (l : List UInt8) {n : Nat} {r : Bool} (h : vaHear l = (n, r)) :
    (([111, 102, 102] == l) = true ∧ n = 0 ∧ r = true) ∨ (([111, 102, 102] == l) = false ∧ ([103, 111, 110, 101] == l) = true ∧ n = 1 ∧ r = true) ∨ (([111, 102, 102] == l) = false ∧ ([103, 111, 110, 101] == l) = false ∧ ([97, 119, 97, 121] == l) = true ∧ n = 2 ∧ r = true) ∨ (([111, 102, 102] == l) = false ∧ ([103, 111, 110, 101] == l) = false ∧ ([97, 119, 97, 121] == l) = false ∧ ([98, 117, 115, 121] == l) = true ∧ n = 3 ∧ r = true) ∨ (([111, 102, 102] == l) = false ∧ ([103, 111, 110, 101] == l) = false ∧ ([97, 119, 97, 121] == l) = false ∧ ([98, 117, 115, 121] == l) = false ∧ ([111, 110, 108, 105, 110, 101] == l) = true ∧ n = 4 ∧ r = true) ∨ (([111, 102, 102] == l) = false ∧ ([103, 111, 110, 101] == l) = false ∧ ([97, 119, 97, 121] == l) = false ∧ ([98, 117, 115, 121] == l) = false ∧ ([111, 110, 108, 105, 110, 101] == l) = false ∧ n = 0 ∧ r = false) := by
  unfold vaHear at h
  by_cases h0 : l = [111, 102, 102]
  · rw [if_pos h0] at h
    simp only [Prod.mk.injEq] at h
    exact .inl ⟨by rw [h0]; decide, h.1.symm, h.2.symm⟩
  by_cases h1 : l = [103, 111, 110, 101]
  · rw [if_neg h0, if_pos h1] at h
    simp only [Prod.mk.injEq] at h
    exact .inr (.inl ⟨by simpa using fun e => h0 e.symm, by rw [h1]; decide, h.1.symm, h.2.symm⟩)
  by_cases h2 : l = [97, 119, 97, 121]
  · rw [if_neg h0, if_neg h1, if_pos h2] at h
    simp only [Prod.mk.injEq] at h
    exact .inr (.inr (.inl ⟨by simpa using fun e => h0 e.symm, by simpa using fun e => h1 e.symm, by rw [h2]; decide, h.1.symm, h.2.symm⟩))
  by_cases h3 : l = [98, 117, 115, 121]
  · rw [if_neg h0, if_neg h1, if_neg h2, if_pos h3] at h
    simp only [Prod.mk.injEq] at h
    exact .inr (.inr (.inr (.inl ⟨by simpa using fun e => h0 e.symm, by simpa using fun e => h1 e.symm, by simpa using fun e => h2 e.symm, by rw [h3]; decide, h.1.symm, h.2.symm⟩)))
  by_cases h4 : l = [111, 110, 108, 105, 110, 101]
  · rw [if_neg h0, if_neg h1, if_neg h2, if_neg h3, if_pos h4] at h
    simp only [Prod.mk.injEq] at h
    exact .inr (.inr (.inr (.inr (.inl ⟨by simpa using fun e => h0 e.symm, by simpa using fun e => h1 e.symm, by simpa using fun e => h2 e.symm, by simpa using fun e => h3 e.symm, by rw [h4]; decide, h.1.symm, h.2.symm⟩))))
  rw [if_neg h0, if_neg h1, if_neg h2, if_neg h3, if_neg h4] at h
  simp only [Prod.mk.injEq] at h
  exact .inr (.inr (.inr (.inr (.inr ⟨by simpa using fun e => h0 e.symm, by simpa using fun e => h1 e.symm, by simpa using fun e => h2 e.symm, by simpa using fun e => h3 e.symm, by simpa using fun e => h4 e.symm, h.1.symm, h.2.symm⟩))))

set_option maxHeartbeats 1600000 in
set_option maxRecDepth 100000 in
theorem hear_any (l : List UInt8) (_hl : l.length ≤ 4294967296) {n : Nat} {r : Bool} (ht : Hid (vaHear l = (n, r))) (w : World) (hL : Laid w) :
    Calls Tryd.prog 13 #[.string ⟨l.toArray⟩] w fun e w' => e = .returned (.tuple #[.int .i64 n, .bool r]) ∧ w = w' := by
  obtain ⟨k0, k1, k2, k3, k4⟩ := hL.five
  have hc := vaHear_cases l ht.out
  clear hL ht
  have i0 := word0_at
  have i1 := word1_at
  have i2 := word2_at
  have i3 := word3_at
  have i4 := word4_at
  rcases hc with ⟨b0, rfl, rfl⟩ | ⟨b0, b1, rfl, rfl⟩ | ⟨b0, b1, b2, rfl, rfl⟩ | ⟨b0, b1, b2, b3, rfl, rfl⟩ | ⟨b0, b1, b2, b3, b4, rfl, rfl⟩ | ⟨b0, b1, b2, b3, b4, rfl, rfl⟩
  · go_enter Tryd.func13, Tryd.ntmps13
    go_wp2_with fail
    refine wp_loop_rounds 6 ?_
    rw [rounds_succ]
    go_wp2_with fail
    go_ret2
    exact ⟨rfl, rfl⟩
  · go_enter Tryd.func13, Tryd.ntmps13
    go_wp2_with fail
    refine wp_loop_rounds 6 ?_
    rw [rounds_succ]
    go_wp2_with fail
    rw [rounds_succ]
    go_wp2_with fail
    go_ret2
    exact ⟨rfl, rfl⟩
  · go_enter Tryd.func13, Tryd.ntmps13
    go_wp2_with fail
    refine wp_loop_rounds 6 ?_
    rw [rounds_succ]
    go_wp2_with fail
    rw [rounds_succ]
    go_wp2_with fail
    rw [rounds_succ]
    go_wp2_with fail
    go_ret2
    exact ⟨rfl, rfl⟩
  · go_enter Tryd.func13, Tryd.ntmps13
    go_wp2_with fail
    refine wp_loop_rounds 6 ?_
    rw [rounds_succ]
    go_wp2_with fail
    rw [rounds_succ]
    go_wp2_with fail
    rw [rounds_succ]
    go_wp2_with fail
    rw [rounds_succ]
    go_wp2_with fail
    go_ret2
    exact ⟨rfl, rfl⟩
  · go_enter Tryd.func13, Tryd.ntmps13
    go_wp2_with fail
    refine wp_loop_rounds 6 ?_
    rw [rounds_succ]
    go_wp2_with fail
    rw [rounds_succ]
    go_wp2_with fail
    rw [rounds_succ]
    go_wp2_with fail
    rw [rounds_succ]
    go_wp2_with fail
    rw [rounds_succ]
    go_wp2_with fail
    go_ret2
    exact ⟨rfl, rfl⟩
  · go_enter Tryd.func13, Tryd.ntmps13
    go_wp2_with fail
    refine wp_loop_rounds 6 ?_
    rw [rounds_succ]
    go_wp2_with fail
    rw [rounds_succ]
    go_wp2_with fail
    rw [rounds_succ]
    go_wp2_with fail
    rw [rounds_succ]
    go_wp2_with fail
    rw [rounds_succ]
    go_wp2_with fail
    rw [rounds_succ]
    go_wp2_with fail
    go_ret2
    exact ⟨rfl, rfl⟩

end Go.Proofs.YtmbgdkelghoghaaDoor
