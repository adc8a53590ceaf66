/-
  TEXTS OF THE PROOF, one behind the other: FraMayF.
-/
import Derived.Test.YtekkofldhhdpgaaT10

set_option linter.unusedVariables false

/-
  LAYER 6, THE CODE: the contract of frame.May.
-/
namespace Go.Proofs.Ytekkofldhhdpgaa
open Go.RowKit

abbrev frBox (w : World) (k s : Int) (on : Bool) (c : List UInt8) (sh pr si : Int) (st : List UInt8) (sum : Nat) (v : Value) : World :=
  w.alloc (.cells #[.int .i64 k, .int .i64 s, .bool on, .string ⟨c.toArray⟩, .int .i64 sh, .int .i64 pr, .int .i64 si, .string ⟨st.toArray⟩, .int .u64 sum, v] 34)

set_option maxHeartbeats 1600000 in
set_option maxRecDepth 100000 in
theorem frmay_out (k s : Int) (on : Bool) (c : List UInt8) (sh pr si : Int) (st : List UInt8) (sum : Nat) (v : Value) (hk : k < 1 ∨ 4 < k) (w : World) :
    Calls Try.prog 25 #[.agg #[.int .i64 k, .int .i64 s, .bool on, .string ⟨c.toArray⟩, .int .i64 sh, .int .i64 pr, .int .i64 si, .string ⟨st.toArray⟩, .int .u64 sum, v]] w fun e w' => e = .returned (.bool false) ∧ Below w.heap.size w w' := by
  have e0 : (decide (1 ≤ k) && decide (k ≤ 4)) = false := by simp; omega
  have HI := Lib.hid fun w => isKind_any k w
  simp only [e0] at HI
  have B0 : Hid (Below w.heap.size w (w.alloc (.cells #[.int .i64 k, .int .i64 s, .bool on, .string ⟨c.toArray⟩, .int .i64 sh, .int .i64 pr, .int .i64 si, .string ⟨st.toArray⟩, .int .u64 sum, v] 34))) := Lib.hid ((Below.refl _ _).alloc (Nat.le_refl _) _)
  have g0 := cell_regrown (w := w.alloc (.cells #[.int .i64 k, .int .i64 s, .bool on, .string ⟨c.toArray⟩, .int .i64 sh, .int .i64 pr, .int .i64 si, .string ⟨st.toArray⟩, .int .u64 sum, v] 34)) (a := ⟨w.heap.size, 0, none⟩) (v := .int .i64 k) (by simp)
  have g1 := cell_regrown (w := w.alloc (.cells #[.int .i64 k, .int .i64 s, .bool on, .string ⟨c.toArray⟩, .int .i64 sh, .int .i64 pr, .int .i64 si, .string ⟨st.toArray⟩, .int .u64 sum, v] 34)) (a := ⟨w.heap.size, 1, none⟩) (v := .int .i64 s) (by simp)
  have g2 := cell_regrown (w := w.alloc (.cells #[.int .i64 k, .int .i64 s, .bool on, .string ⟨c.toArray⟩, .int .i64 sh, .int .i64 pr, .int .i64 si, .string ⟨st.toArray⟩, .int .u64 sum, v] 34)) (a := ⟨w.heap.size, 2, none⟩) (v := .bool on) (by simp)
  have g3 := cell_regrown (w := w.alloc (.cells #[.int .i64 k, .int .i64 s, .bool on, .string ⟨c.toArray⟩, .int .i64 sh, .int .i64 pr, .int .i64 si, .string ⟨st.toArray⟩, .int .u64 sum, v] 34)) (a := ⟨w.heap.size, 3, none⟩) (v := .string ⟨c.toArray⟩) (by simp)
  have g4 := cell_regrown (w := w.alloc (.cells #[.int .i64 k, .int .i64 s, .bool on, .string ⟨c.toArray⟩, .int .i64 sh, .int .i64 pr, .int .i64 si, .string ⟨st.toArray⟩, .int .u64 sum, v] 34)) (a := ⟨w.heap.size, 4, none⟩) (v := .int .i64 sh) (by simp)
  have g5 := cell_regrown (w := w.alloc (.cells #[.int .i64 k, .int .i64 s, .bool on, .string ⟨c.toArray⟩, .int .i64 sh, .int .i64 pr, .int .i64 si, .string ⟨st.toArray⟩, .int .u64 sum, v] 34)) (a := ⟨w.heap.size, 5, none⟩) (v := .int .i64 pr) (by simp)
  have g6 := cell_regrown (w := w.alloc (.cells #[.int .i64 k, .int .i64 s, .bool on, .string ⟨c.toArray⟩, .int .i64 sh, .int .i64 pr, .int .i64 si, .string ⟨st.toArray⟩, .int .u64 sum, v] 34)) (a := ⟨w.heap.size, 6, none⟩) (v := .int .i64 si) (by simp)
  have g7 := cell_regrown (w := w.alloc (.cells #[.int .i64 k, .int .i64 s, .bool on, .string ⟨c.toArray⟩, .int .i64 sh, .int .i64 pr, .int .i64 si, .string ⟨st.toArray⟩, .int .u64 sum, v] 34)) (a := ⟨w.heap.size, 7, none⟩) (v := .string ⟨st.toArray⟩) (by simp)
  have g8 := cell_regrown (w := w.alloc (.cells #[.int .i64 k, .int .i64 s, .bool on, .string ⟨c.toArray⟩, .int .i64 sh, .int .i64 pr, .int .i64 si, .string ⟨st.toArray⟩, .int .u64 sum, v] 34)) (a := ⟨w.heap.size, 8, none⟩) (v := .int .u64 sum) (by simp)
  have g9 := cell_regrown (w := w.alloc (.cells #[.int .i64 k, .int .i64 s, .bool on, .string ⟨c.toArray⟩, .int .i64 sh, .int .i64 pr, .int .i64 si, .string ⟨st.toArray⟩, .int .u64 sum, v] 34)) (a := ⟨w.heap.size, 9, none⟩) (v := v) (by simp)
  clear hk e0
  go_enter Try.func25, Try.ntmps25
  go_wp2_with fail
  refine wp_region_quiet_below (by kernel_rfl) (by kernel_rfl) ?_
  repeat (go_big_quiet_step (with_reducible exact rgS HI.out _ _ _))
  refine wpQuiet_nil ?_
  intro w5 hw5
  have B5 := Lib.hid (below2' B0.out (below_regrownF hw5))
  clear hw5 g0 g1 g2 g3 g4 g5 g6 g7 g8 g9
  go_wp2_with fail
  go_ret
  exact ⟨rfl, B5.out⟩

set_option maxHeartbeats 3200000 in
set_option maxRecDepth 100000 in
theorem frmay_1 {w : World} {v : Value} {t : List Row} (hv : Tab w v t) (hsh : Short t) (s : Int) (on : Bool) (c : List UInt8) (sh pr si : Int) (st : List UInt8) (sum : Nat) (hc : c.length ≤ 4294967296) (hs : st.length ≤ 4294967296) :
    Calls Try.prog 25 #[.agg #[.int .i64 1, .int .i64 s, .bool on, .string ⟨c.toArray⟩, .int .i64 sh, .int .i64 pr, .int .i64 si, .string ⟨st.toArray⟩, .int .u64 sum, v]] w fun e w' => e = .returned (.bool (frMay ⟨1, s, on, c, ⟨sh, pr, si, st⟩, sum, t⟩)) ∧ Below w.heap.size w w' := by
  have e0 : (decide ((1 : Int) ≤ 1) && decide ((1 : Int) ≤ 4)) = true := by decide
  have HI := Lib.hid fun w => isKind_any 1 w
  simp only [e0] at HI
  clear e0
  have B0 : Hid (Below w.heap.size w (w.alloc (.cells #[.int .i64 1, .int .i64 s, .bool on, .string ⟨c.toArray⟩, .int .i64 sh, .int .i64 pr, .int .i64 si, .string ⟨st.toArray⟩, .int .u64 sum, v] 34))) := Lib.hid ((Below.refl _ _).alloc (Nat.le_refl _) _)
  have g0 := cell_regrown (w := w.alloc (.cells #[.int .i64 1, .int .i64 s, .bool on, .string ⟨c.toArray⟩, .int .i64 sh, .int .i64 pr, .int .i64 si, .string ⟨st.toArray⟩, .int .u64 sum, v] 34)) (a := ⟨w.heap.size, 0, none⟩) (v := .int .i64 1) (by simp)
  have g1 := cell_regrown (w := w.alloc (.cells #[.int .i64 1, .int .i64 s, .bool on, .string ⟨c.toArray⟩, .int .i64 sh, .int .i64 pr, .int .i64 si, .string ⟨st.toArray⟩, .int .u64 sum, v] 34)) (a := ⟨w.heap.size, 1, none⟩) (v := .int .i64 s) (by simp)
  have g2 := cell_regrown (w := w.alloc (.cells #[.int .i64 1, .int .i64 s, .bool on, .string ⟨c.toArray⟩, .int .i64 sh, .int .i64 pr, .int .i64 si, .string ⟨st.toArray⟩, .int .u64 sum, v] 34)) (a := ⟨w.heap.size, 2, none⟩) (v := .bool on) (by simp)
  have g3 := cell_regrown (w := w.alloc (.cells #[.int .i64 1, .int .i64 s, .bool on, .string ⟨c.toArray⟩, .int .i64 sh, .int .i64 pr, .int .i64 si, .string ⟨st.toArray⟩, .int .u64 sum, v] 34)) (a := ⟨w.heap.size, 3, none⟩) (v := .string ⟨c.toArray⟩) (by simp)
  have g4 := cell_regrown (w := w.alloc (.cells #[.int .i64 1, .int .i64 s, .bool on, .string ⟨c.toArray⟩, .int .i64 sh, .int .i64 pr, .int .i64 si, .string ⟨st.toArray⟩, .int .u64 sum, v] 34)) (a := ⟨w.heap.size, 4, none⟩) (v := .int .i64 sh) (by simp)
  have g5 := cell_regrown (w := w.alloc (.cells #[.int .i64 1, .int .i64 s, .bool on, .string ⟨c.toArray⟩, .int .i64 sh, .int .i64 pr, .int .i64 si, .string ⟨st.toArray⟩, .int .u64 sum, v] 34)) (a := ⟨w.heap.size, 5, none⟩) (v := .int .i64 pr) (by simp)
  have g6 := cell_regrown (w := w.alloc (.cells #[.int .i64 1, .int .i64 s, .bool on, .string ⟨c.toArray⟩, .int .i64 sh, .int .i64 pr, .int .i64 si, .string ⟨st.toArray⟩, .int .u64 sum, v] 34)) (a := ⟨w.heap.size, 6, none⟩) (v := .int .i64 si) (by simp)
  have g7 := cell_regrown (w := w.alloc (.cells #[.int .i64 1, .int .i64 s, .bool on, .string ⟨c.toArray⟩, .int .i64 sh, .int .i64 pr, .int .i64 si, .string ⟨st.toArray⟩, .int .u64 sum, v] 34)) (a := ⟨w.heap.size, 7, none⟩) (v := .string ⟨st.toArray⟩) (by simp)
  have g8 := cell_regrown (w := w.alloc (.cells #[.int .i64 1, .int .i64 s, .bool on, .string ⟨c.toArray⟩, .int .i64 sh, .int .i64 pr, .int .i64 si, .string ⟨st.toArray⟩, .int .u64 sum, v] 34)) (a := ⟨w.heap.size, 8, none⟩) (v := .int .u64 sum) (by simp)
  have g9 := cell_regrown (w := w.alloc (.cells #[.int .i64 1, .int .i64 s, .bool on, .string ⟨c.toArray⟩, .int .i64 sh, .int .i64 pr, .int .i64 si, .string ⟨st.toArray⟩, .int .u64 sum, v] 34)) (a := ⟨w.heap.size, 9, none⟩) (v := v) (by simp)
  have HK : Hid (∀ d os, Calls Try.prog 61 #[.agg #[.int .i64 1, .int .i64 s, .bool on, .string ⟨c.toArray⟩, .int .i64 sh, .int .i64 pr, .int .i64 si, .string ⟨st.toArray⟩, .int .u64 sum, v]] (Sort.grow (redrawn (w.alloc (.cells #[.int .i64 1, .int .i64 s, .bool on, .string ⟨c.toArray⟩, .int .i64 sh, .int .i64 pr, .int .i64 si, .string ⟨st.toArray⟩, .int .u64 sum, v] 34)) d) os) fun e w'' => e = .returned (.bool (frRest ⟨1, s, on, c, ⟨sh, pr, si, st⟩, sum, t⟩)) ∧ ∃ p : Regrown, w'' = Sort.grow (redrawn (w.alloc (.cells #[.int .i64 1, .int .i64 s, .bool on, .string ⟨c.toArray⟩, .int .i64 sh, .int .i64 pr, .int .i64 si, .string ⟨st.toArray⟩, .int .u64 sum, v] 34)) p.d) p.os) := Lib.hid fun d os =>
    Calls.regrown_of ((mayDelta_any ((hv.later B0.out).later (below_regrown _ d os)) 1 s on c sh pr si st sum hc hs).mono fun e w' h => ⟨h.1.trans (by unfold frRest; simp), h.2⟩)
  have hix : ∀ w, (Instr.index 78 kindsV (.int .i64 1)).run Try.prog w = .ok (.agg #[.func (.func 61) #[] #[], .func (.func 62) #[] #[], .func (.func 63) #[] #[]]) w := fun _ => by kernel_rfl
  have hfd : ∀ w, (Instr.field 77 (.agg #[.func (.func 61) #[] #[], .func (.func 62) #[] #[], .func (.func 63) #[] #[]]) 0).run Try.prog w = .ok (.func (.func 61) #[] #[]) w := fun _ => by kernel_rfl
  have HKD := Lib.hid kindsF_any
  have hm : frMay ⟨1, s, on, c, ⟨sh, pr, si, st⟩, sum, t⟩ = ((decide (0 ≤ s) && decide (s ≤ 1099511627776)) && frRest ⟨1, s, on, c, ⟨sh, pr, si, st⟩, sum, t⟩) := by unfold frMay; simp
  rw [hm]
  obtain ⟨r, hr⟩ : ∃ r, frRest ⟨1, s, on, c, ⟨sh, pr, si, st⟩, sum, t⟩ = r := ⟨_, rfl⟩
  rw [hr] at HK ⊢
  clear hr hm hv hsh hc hs
  by_cases h0 : 0 ≤ s
  · by_cases h1 : s ≤ 1099511627776
    · rw [show ((decide (0 ≤ s) && decide (s ≤ 1099511627776)) && r) = r by simp [h0, h1]]
      go_enter Try.func25, Try.ntmps25
      go_wp2_with fail
      refine wp_region_quiet_below (by kernel_rfl) (by kernel_rfl) ?_
      repeat (go_big_quiet_step (first | with_reducible exact rgS HI.out _ _ _ | with_reducible exact rgB HKD.out _ _ _ | with_reducible exact HK.out _ _))
      refine wpQuiet_nil ?_
      intro w5 hw5
      have B5 := Lib.hid (below2' B0.out (below_regrownF hw5))
      clear hw5 g0 g1 g2 g3 g4 g5 g6 g7 g8 g9
      go_wp2_with fail
      go_ret
      exact ⟨rfl, B5.out⟩
    · rw [show ((decide (0 ≤ s) && decide (s ≤ 1099511627776)) && r) = false by simp [h1]]
      have t1 : decide (s ≤ 1099511627776) = false := by simpa using h1
      go_enter Try.func25, Try.ntmps25
      go_wp2_with fail
      refine wp_region_quiet_below (by kernel_rfl) (by kernel_rfl) ?_
      repeat (go_big_quiet_step (with_reducible exact rgS HI.out _ _ _))
      refine wpQuiet_nil ?_
      intro w5 hw5
      have B5 := Lib.hid (below2' B0.out (below_regrownF hw5))
      clear hw5 g0 g1 g2 g3 g4 g5 g6 g7 g8 g9
      go_wp2_with fail
      go_ret
      exact ⟨rfl, B5.out⟩
  · rw [show ((decide (0 ≤ s) && decide (s ≤ 1099511627776)) && r) = false by simp [h0]]
    have t1 : decide (0 ≤ s) = false := by simpa using h0
    go_enter Try.func25, Try.ntmps25
    go_wp2_with fail
    refine wp_region_quiet_below (by kernel_rfl) (by kernel_rfl) ?_
    repeat (go_big_quiet_step (with_reducible exact rgS HI.out _ _ _))
    refine wpQuiet_nil ?_
    intro w5 hw5
    have B5 := Lib.hid (below2' B0.out (below_regrownF hw5))
    clear hw5 g0 g1 g2 g3 g4 g5 g6 g7 g8 g9
    go_wp2_with fail
    go_ret
    exact ⟨rfl, B5.out⟩

set_option maxHeartbeats 3200000 in
set_option maxRecDepth 100000 in
theorem frmay_2 {w : World} {v : Value} {t : List Row} (hv : Tab w v t) (hsh : Short t) (s : Int) (on : Bool) (c : List UInt8) (sh pr si : Int) (st : List UInt8) (sum : Nat) (hc : c.length ≤ 4294967296) (hs : st.length ≤ 4294967296) :
    Calls Try.prog 25 #[.agg #[.int .i64 2, .int .i64 s, .bool on, .string ⟨c.toArray⟩, .int .i64 sh, .int .i64 pr, .int .i64 si, .string ⟨st.toArray⟩, .int .u64 sum, v]] w fun e w' => e = .returned (.bool (frMay ⟨2, s, on, c, ⟨sh, pr, si, st⟩, sum, t⟩)) ∧ Below w.heap.size w w' := by
  have e0 : (decide ((1 : Int) ≤ 2) && decide ((2 : Int) ≤ 4)) = true := by decide
  have HI := Lib.hid fun w => isKind_any 2 w
  simp only [e0] at HI
  clear e0
  have B0 : Hid (Below w.heap.size w (w.alloc (.cells #[.int .i64 2, .int .i64 s, .bool on, .string ⟨c.toArray⟩, .int .i64 sh, .int .i64 pr, .int .i64 si, .string ⟨st.toArray⟩, .int .u64 sum, v] 34))) := Lib.hid ((Below.refl _ _).alloc (Nat.le_refl _) _)
  have g0 := cell_regrown (w := w.alloc (.cells #[.int .i64 2, .int .i64 s, .bool on, .string ⟨c.toArray⟩, .int .i64 sh, .int .i64 pr, .int .i64 si, .string ⟨st.toArray⟩, .int .u64 sum, v] 34)) (a := ⟨w.heap.size, 0, none⟩) (v := .int .i64 2) (by simp)
  have g1 := cell_regrown (w := w.alloc (.cells #[.int .i64 2, .int .i64 s, .bool on, .string ⟨c.toArray⟩, .int .i64 sh, .int .i64 pr, .int .i64 si, .string ⟨st.toArray⟩, .int .u64 sum, v] 34)) (a := ⟨w.heap.size, 1, none⟩) (v := .int .i64 s) (by simp)
  have g2 := cell_regrown (w := w.alloc (.cells #[.int .i64 2, .int .i64 s, .bool on, .string ⟨c.toArray⟩, .int .i64 sh, .int .i64 pr, .int .i64 si, .string ⟨st.toArray⟩, .int .u64 sum, v] 34)) (a := ⟨w.heap.size, 2, none⟩) (v := .bool on) (by simp)
  have g3 := cell_regrown (w := w.alloc (.cells #[.int .i64 2, .int .i64 s, .bool on, .string ⟨c.toArray⟩, .int .i64 sh, .int .i64 pr, .int .i64 si, .string ⟨st.toArray⟩, .int .u64 sum, v] 34)) (a := ⟨w.heap.size, 3, none⟩) (v := .string ⟨c.toArray⟩) (by simp)
  have g4 := cell_regrown (w := w.alloc (.cells #[.int .i64 2, .int .i64 s, .bool on, .string ⟨c.toArray⟩, .int .i64 sh, .int .i64 pr, .int .i64 si, .string ⟨st.toArray⟩, .int .u64 sum, v] 34)) (a := ⟨w.heap.size, 4, none⟩) (v := .int .i64 sh) (by simp)
  have g5 := cell_regrown (w := w.alloc (.cells #[.int .i64 2, .int .i64 s, .bool on, .string ⟨c.toArray⟩, .int .i64 sh, .int .i64 pr, .int .i64 si, .string ⟨st.toArray⟩, .int .u64 sum, v] 34)) (a := ⟨w.heap.size, 5, none⟩) (v := .int .i64 pr) (by simp)
  have g6 := cell_regrown (w := w.alloc (.cells #[.int .i64 2, .int .i64 s, .bool on, .string ⟨c.toArray⟩, .int .i64 sh, .int .i64 pr, .int .i64 si, .string ⟨st.toArray⟩, .int .u64 sum, v] 34)) (a := ⟨w.heap.size, 6, none⟩) (v := .int .i64 si) (by simp)
  have g7 := cell_regrown (w := w.alloc (.cells #[.int .i64 2, .int .i64 s, .bool on, .string ⟨c.toArray⟩, .int .i64 sh, .int .i64 pr, .int .i64 si, .string ⟨st.toArray⟩, .int .u64 sum, v] 34)) (a := ⟨w.heap.size, 7, none⟩) (v := .string ⟨st.toArray⟩) (by simp)
  have g8 := cell_regrown (w := w.alloc (.cells #[.int .i64 2, .int .i64 s, .bool on, .string ⟨c.toArray⟩, .int .i64 sh, .int .i64 pr, .int .i64 si, .string ⟨st.toArray⟩, .int .u64 sum, v] 34)) (a := ⟨w.heap.size, 8, none⟩) (v := .int .u64 sum) (by simp)
  have g9 := cell_regrown (w := w.alloc (.cells #[.int .i64 2, .int .i64 s, .bool on, .string ⟨c.toArray⟩, .int .i64 sh, .int .i64 pr, .int .i64 si, .string ⟨st.toArray⟩, .int .u64 sum, v] 34)) (a := ⟨w.heap.size, 9, none⟩) (v := v) (by simp)
  have HK : Hid (∀ d os, Calls Try.prog 64 #[.agg #[.int .i64 2, .int .i64 s, .bool on, .string ⟨c.toArray⟩, .int .i64 sh, .int .i64 pr, .int .i64 si, .string ⟨st.toArray⟩, .int .u64 sum, v]] (Sort.grow (redrawn (w.alloc (.cells #[.int .i64 2, .int .i64 s, .bool on, .string ⟨c.toArray⟩, .int .i64 sh, .int .i64 pr, .int .i64 si, .string ⟨st.toArray⟩, .int .u64 sum, v] 34)) d) os) fun e w'' => e = .returned (.bool (frRest ⟨2, s, on, c, ⟨sh, pr, si, st⟩, sum, t⟩)) ∧ ∃ p : Regrown, w'' = Sort.grow (redrawn (w.alloc (.cells #[.int .i64 2, .int .i64 s, .bool on, .string ⟨c.toArray⟩, .int .i64 sh, .int .i64 pr, .int .i64 si, .string ⟨st.toArray⟩, .int .u64 sum, v] 34)) p.d) p.os) := Lib.hid fun d os =>
    Calls.regrown_of ((mayDigest_any ((hv.later B0.out).later (below_regrown _ d os)) 2 s on c sh pr si st sum hc hs).mono fun e w' h => ⟨h.1.trans (by unfold frRest; simp), h.2⟩)
  have hix : ∀ w, (Instr.index 78 kindsV (.int .i64 2)).run Try.prog w = .ok (.agg #[.func (.func 64) #[] #[], .func (.func 65) #[] #[], .func (.func 66) #[] #[]]) w := fun _ => by kernel_rfl
  have hfd : ∀ w, (Instr.field 77 (.agg #[.func (.func 64) #[] #[], .func (.func 65) #[] #[], .func (.func 66) #[] #[]]) 0).run Try.prog w = .ok (.func (.func 64) #[] #[]) w := fun _ => by kernel_rfl
  have HKD := Lib.hid kindsF_any
  have hm : frMay ⟨2, s, on, c, ⟨sh, pr, si, st⟩, sum, t⟩ = ((decide (0 ≤ s) && decide (s ≤ 1099511627776)) && frRest ⟨2, s, on, c, ⟨sh, pr, si, st⟩, sum, t⟩) := by unfold frMay; simp
  rw [hm]
  obtain ⟨r, hr⟩ : ∃ r, frRest ⟨2, s, on, c, ⟨sh, pr, si, st⟩, sum, t⟩ = r := ⟨_, rfl⟩
  rw [hr] at HK ⊢
  clear hr hm hv hsh hc hs
  by_cases h0 : 0 ≤ s
  · by_cases h1 : s ≤ 1099511627776
    · rw [show ((decide (0 ≤ s) && decide (s ≤ 1099511627776)) && r) = r by simp [h0, h1]]
      go_enter Try.func25, Try.ntmps25
      go_wp2_with fail
      refine wp_region_quiet_below (by kernel_rfl) (by kernel_rfl) ?_
      repeat (go_big_quiet_step (first | with_reducible exact rgS HI.out _ _ _ | with_reducible exact rgB HKD.out _ _ _ | with_reducible exact HK.out _ _))
      refine wpQuiet_nil ?_
      intro w5 hw5
      have B5 := Lib.hid (below2' B0.out (below_regrownF hw5))
      clear hw5 g0 g1 g2 g3 g4 g5 g6 g7 g8 g9
      go_wp2_with fail
      go_ret
      exact ⟨rfl, B5.out⟩
    · rw [show ((decide (0 ≤ s) && decide (s ≤ 1099511627776)) && r) = false by simp [h1]]
      have t1 : decide (s ≤ 1099511627776) = false := by simpa using h1
      go_enter Try.func25, Try.ntmps25
      go_wp2_with fail
      refine wp_region_quiet_below (by kernel_rfl) (by kernel_rfl) ?_
      repeat (go_big_quiet_step (with_reducible exact rgS HI.out _ _ _))
      refine wpQuiet_nil ?_
      intro w5 hw5
      have B5 := Lib.hid (below2' B0.out (below_regrownF hw5))
      clear hw5 g0 g1 g2 g3 g4 g5 g6 g7 g8 g9
      go_wp2_with fail
      go_ret
      exact ⟨rfl, B5.out⟩
  · rw [show ((decide (0 ≤ s) && decide (s ≤ 1099511627776)) && r) = false by simp [h0]]
    have t1 : decide (0 ≤ s) = false := by simpa using h0
    go_enter Try.func25, Try.ntmps25
    go_wp2_with fail
    refine wp_region_quiet_below (by kernel_rfl) (by kernel_rfl) ?_
    repeat (go_big_quiet_step (with_reducible exact rgS HI.out _ _ _))
    refine wpQuiet_nil ?_
    intro w5 hw5
    have B5 := Lib.hid (below2' B0.out (below_regrownF hw5))
    clear hw5 g0 g1 g2 g3 g4 g5 g6 g7 g8 g9
    go_wp2_with fail
    go_ret
    exact ⟨rfl, B5.out⟩

set_option maxHeartbeats 3200000 in
set_option maxRecDepth 100000 in
theorem frmay_3 {w : World} {v : Value} {t : List Row} (hv : Tab w v t) (hsh : Short t) (s : Int) (on : Bool) (c : List UInt8) (sh pr si : Int) (st : List UInt8) (sum : Nat) (hc : c.length ≤ 4294967296) (hs : st.length ≤ 4294967296) :
    Calls Try.prog 25 #[.agg #[.int .i64 3, .int .i64 s, .bool on, .string ⟨c.toArray⟩, .int .i64 sh, .int .i64 pr, .int .i64 si, .string ⟨st.toArray⟩, .int .u64 sum, v]] w fun e w' => e = .returned (.bool (frMay ⟨3, s, on, c, ⟨sh, pr, si, st⟩, sum, t⟩)) ∧ Below w.heap.size w w' := by
  have e0 : (decide ((1 : Int) ≤ 3) && decide ((3 : Int) ≤ 4)) = true := by decide
  have HI := Lib.hid fun w => isKind_any 3 w
  simp only [e0] at HI
  clear e0
  have B0 : Hid (Below w.heap.size w (w.alloc (.cells #[.int .i64 3, .int .i64 s, .bool on, .string ⟨c.toArray⟩, .int .i64 sh, .int .i64 pr, .int .i64 si, .string ⟨st.toArray⟩, .int .u64 sum, v] 34))) := Lib.hid ((Below.refl _ _).alloc (Nat.le_refl _) _)
  have g0 := cell_regrown (w := w.alloc (.cells #[.int .i64 3, .int .i64 s, .bool on, .string ⟨c.toArray⟩, .int .i64 sh, .int .i64 pr, .int .i64 si, .string ⟨st.toArray⟩, .int .u64 sum, v] 34)) (a := ⟨w.heap.size, 0, none⟩) (v := .int .i64 3) (by simp)
  have g1 := cell_regrown (w := w.alloc (.cells #[.int .i64 3, .int .i64 s, .bool on, .string ⟨c.toArray⟩, .int .i64 sh, .int .i64 pr, .int .i64 si, .string ⟨st.toArray⟩, .int .u64 sum, v] 34)) (a := ⟨w.heap.size, 1, none⟩) (v := .int .i64 s) (by simp)
  have g2 := cell_regrown (w := w.alloc (.cells #[.int .i64 3, .int .i64 s, .bool on, .string ⟨c.toArray⟩, .int .i64 sh, .int .i64 pr, .int .i64 si, .string ⟨st.toArray⟩, .int .u64 sum, v] 34)) (a := ⟨w.heap.size, 2, none⟩) (v := .bool on) (by simp)
  have g3 := cell_regrown (w := w.alloc (.cells #[.int .i64 3, .int .i64 s, .bool on, .string ⟨c.toArray⟩, .int .i64 sh, .int .i64 pr, .int .i64 si, .string ⟨st.toArray⟩, .int .u64 sum, v] 34)) (a := ⟨w.heap.size, 3, none⟩) (v := .string ⟨c.toArray⟩) (by simp)
  have g4 := cell_regrown (w := w.alloc (.cells #[.int .i64 3, .int .i64 s, .bool on, .string ⟨c.toArray⟩, .int .i64 sh, .int .i64 pr, .int .i64 si, .string ⟨st.toArray⟩, .int .u64 sum, v] 34)) (a := ⟨w.heap.size, 4, none⟩) (v := .int .i64 sh) (by simp)
  have g5 := cell_regrown (w := w.alloc (.cells #[.int .i64 3, .int .i64 s, .bool on, .string ⟨c.toArray⟩, .int .i64 sh, .int .i64 pr, .int .i64 si, .string ⟨st.toArray⟩, .int .u64 sum, v] 34)) (a := ⟨w.heap.size, 5, none⟩) (v := .int .i64 pr) (by simp)
  have g6 := cell_regrown (w := w.alloc (.cells #[.int .i64 3, .int .i64 s, .bool on, .string ⟨c.toArray⟩, .int .i64 sh, .int .i64 pr, .int .i64 si, .string ⟨st.toArray⟩, .int .u64 sum, v] 34)) (a := ⟨w.heap.size, 6, none⟩) (v := .int .i64 si) (by simp)
  have g7 := cell_regrown (w := w.alloc (.cells #[.int .i64 3, .int .i64 s, .bool on, .string ⟨c.toArray⟩, .int .i64 sh, .int .i64 pr, .int .i64 si, .string ⟨st.toArray⟩, .int .u64 sum, v] 34)) (a := ⟨w.heap.size, 7, none⟩) (v := .string ⟨st.toArray⟩) (by simp)
  have g8 := cell_regrown (w := w.alloc (.cells #[.int .i64 3, .int .i64 s, .bool on, .string ⟨c.toArray⟩, .int .i64 sh, .int .i64 pr, .int .i64 si, .string ⟨st.toArray⟩, .int .u64 sum, v] 34)) (a := ⟨w.heap.size, 8, none⟩) (v := .int .u64 sum) (by simp)
  have g9 := cell_regrown (w := w.alloc (.cells #[.int .i64 3, .int .i64 s, .bool on, .string ⟨c.toArray⟩, .int .i64 sh, .int .i64 pr, .int .i64 si, .string ⟨st.toArray⟩, .int .u64 sum, v] 34)) (a := ⟨w.heap.size, 9, none⟩) (v := v) (by simp)
  have HK : Hid (∀ d os, Calls Try.prog 67 #[.agg #[.int .i64 3, .int .i64 s, .bool on, .string ⟨c.toArray⟩, .int .i64 sh, .int .i64 pr, .int .i64 si, .string ⟨st.toArray⟩, .int .u64 sum, v]] (Sort.grow (redrawn (w.alloc (.cells #[.int .i64 3, .int .i64 s, .bool on, .string ⟨c.toArray⟩, .int .i64 sh, .int .i64 pr, .int .i64 si, .string ⟨st.toArray⟩, .int .u64 sum, v] 34)) d) os) fun e w'' => e = .returned (.bool (frRest ⟨3, s, on, c, ⟨sh, pr, si, st⟩, sum, t⟩)) ∧ ∃ p : Regrown, w'' = Sort.grow (redrawn (w.alloc (.cells #[.int .i64 3, .int .i64 s, .bool on, .string ⟨c.toArray⟩, .int .i64 sh, .int .i64 pr, .int .i64 si, .string ⟨st.toArray⟩, .int .u64 sum, v] 34)) p.d) p.os) := Lib.hid fun d os =>
    Calls.regrown_of ((maySnapshot_any ((hv.later B0.out).later (below_regrown _ d os)) 3 s on c sh pr si st sum hc hs hsh).mono fun e w' h => ⟨h.1.trans (by unfold frRest; simp), h.2⟩)
  have hix : ∀ w, (Instr.index 78 kindsV (.int .i64 3)).run Try.prog w = .ok (.agg #[.func (.func 67) #[] #[], .func (.func 68) #[] #[], .func (.func 69) #[] #[]]) w := fun _ => by kernel_rfl
  have hfd : ∀ w, (Instr.field 77 (.agg #[.func (.func 67) #[] #[], .func (.func 68) #[] #[], .func (.func 69) #[] #[]]) 0).run Try.prog w = .ok (.func (.func 67) #[] #[]) w := fun _ => by kernel_rfl
  have HKD := Lib.hid kindsF_any
  have hm : frMay ⟨3, s, on, c, ⟨sh, pr, si, st⟩, sum, t⟩ = ((decide (0 ≤ s) && decide (s ≤ 1099511627776)) && frRest ⟨3, s, on, c, ⟨sh, pr, si, st⟩, sum, t⟩) := by unfold frMay; simp
  rw [hm]
  obtain ⟨r, hr⟩ : ∃ r, frRest ⟨3, s, on, c, ⟨sh, pr, si, st⟩, sum, t⟩ = r := ⟨_, rfl⟩
  rw [hr] at HK ⊢
  clear hr hm hv hsh hc hs
  by_cases h0 : 0 ≤ s
  · by_cases h1 : s ≤ 1099511627776
    · rw [show ((decide (0 ≤ s) && decide (s ≤ 1099511627776)) && r) = r by simp [h0, h1]]
      go_enter Try.func25, Try.ntmps25
      go_wp2_with fail
      refine wp_region_quiet_below (by kernel_rfl) (by kernel_rfl) ?_
      repeat (go_big_quiet_step (first | with_reducible exact rgS HI.out _ _ _ | with_reducible exact rgB HKD.out _ _ _ | with_reducible exact HK.out _ _))
      refine wpQuiet_nil ?_
      intro w5 hw5
      have B5 := Lib.hid (below2' B0.out (below_regrownF hw5))
      clear hw5 g0 g1 g2 g3 g4 g5 g6 g7 g8 g9
      go_wp2_with fail
      go_ret
      exact ⟨rfl, B5.out⟩
    · rw [show ((decide (0 ≤ s) && decide (s ≤ 1099511627776)) && r) = false by simp [h1]]
      have t1 : decide (s ≤ 1099511627776) = false := by simpa using h1
      go_enter Try.func25, Try.ntmps25
      go_wp2_with fail
      refine wp_region_quiet_below (by kernel_rfl) (by kernel_rfl) ?_
      repeat (go_big_quiet_step (with_reducible exact rgS HI.out _ _ _))
      refine wpQuiet_nil ?_
      intro w5 hw5
      have B5 := Lib.hid (below2' B0.out (below_regrownF hw5))
      clear hw5 g0 g1 g2 g3 g4 g5 g6 g7 g8 g9
      go_wp2_with fail
      go_ret
      exact ⟨rfl, B5.out⟩
  · rw [show ((decide (0 ≤ s) && decide (s ≤ 1099511627776)) && r) = false by simp [h0]]
    have t1 : decide (0 ≤ s) = false := by simpa using h0
    go_enter Try.func25, Try.ntmps25
    go_wp2_with fail
    refine wp_region_quiet_below (by kernel_rfl) (by kernel_rfl) ?_
    repeat (go_big_quiet_step (with_reducible exact rgS HI.out _ _ _))
    refine wpQuiet_nil ?_
    intro w5 hw5
    have B5 := Lib.hid (below2' B0.out (below_regrownF hw5))
    clear hw5 g0 g1 g2 g3 g4 g5 g6 g7 g8 g9
    go_wp2_with fail
    go_ret
    exact ⟨rfl, B5.out⟩

set_option maxHeartbeats 3200000 in
set_option maxRecDepth 100000 in
theorem frmay_4 {w : World} {v : Value} {t : List Row} (hv : Tab w v t) (hsh : Short t) (s : Int) (on : Bool) (c : List UInt8) (sh pr si : Int) (st : List UInt8) (sum : Nat) (hc : c.length ≤ 4294967296) (hs : st.length ≤ 4294967296) :
    Calls Try.prog 25 #[.agg #[.int .i64 4, .int .i64 s, .bool on, .string ⟨c.toArray⟩, .int .i64 sh, .int .i64 pr, .int .i64 si, .string ⟨st.toArray⟩, .int .u64 sum, v]] w fun e w' => e = .returned (.bool (frMay ⟨4, s, on, c, ⟨sh, pr, si, st⟩, sum, t⟩)) ∧ Below w.heap.size w w' := by
  have e0 : (decide ((1 : Int) ≤ 4) && decide ((4 : Int) ≤ 4)) = true := by decide
  have HI := Lib.hid fun w => isKind_any 4 w
  simp only [e0] at HI
  clear e0
  have B0 : Hid (Below w.heap.size w (w.alloc (.cells #[.int .i64 4, .int .i64 s, .bool on, .string ⟨c.toArray⟩, .int .i64 sh, .int .i64 pr, .int .i64 si, .string ⟨st.toArray⟩, .int .u64 sum, v] 34))) := Lib.hid ((Below.refl _ _).alloc (Nat.le_refl _) _)
  have g0 := cell_regrown (w := w.alloc (.cells #[.int .i64 4, .int .i64 s, .bool on, .string ⟨c.toArray⟩, .int .i64 sh, .int .i64 pr, .int .i64 si, .string ⟨st.toArray⟩, .int .u64 sum, v] 34)) (a := ⟨w.heap.size, 0, none⟩) (v := .int .i64 4) (by simp)
  have g1 := cell_regrown (w := w.alloc (.cells #[.int .i64 4, .int .i64 s, .bool on, .string ⟨c.toArray⟩, .int .i64 sh, .int .i64 pr, .int .i64 si, .string ⟨st.toArray⟩, .int .u64 sum, v] 34)) (a := ⟨w.heap.size, 1, none⟩) (v := .int .i64 s) (by simp)
  have g2 := cell_regrown (w := w.alloc (.cells #[.int .i64 4, .int .i64 s, .bool on, .string ⟨c.toArray⟩, .int .i64 sh, .int .i64 pr, .int .i64 si, .string ⟨st.toArray⟩, .int .u64 sum, v] 34)) (a := ⟨w.heap.size, 2, none⟩) (v := .bool on) (by simp)
  have g3 := cell_regrown (w := w.alloc (.cells #[.int .i64 4, .int .i64 s, .bool on, .string ⟨c.toArray⟩, .int .i64 sh, .int .i64 pr, .int .i64 si, .string ⟨st.toArray⟩, .int .u64 sum, v] 34)) (a := ⟨w.heap.size, 3, none⟩) (v := .string ⟨c.toArray⟩) (by simp)
  have g4 := cell_regrown (w := w.alloc (.cells #[.int .i64 4, .int .i64 s, .bool on, .string ⟨c.toArray⟩, .int .i64 sh, .int .i64 pr, .int .i64 si, .string ⟨st.toArray⟩, .int .u64 sum, v] 34)) (a := ⟨w.heap.size, 4, none⟩) (v := .int .i64 sh) (by simp)
  have g5 := cell_regrown (w := w.alloc (.cells #[.int .i64 4, .int .i64 s, .bool on, .string ⟨c.toArray⟩, .int .i64 sh, .int .i64 pr, .int .i64 si, .string ⟨st.toArray⟩, .int .u64 sum, v] 34)) (a := ⟨w.heap.size, 5, none⟩) (v := .int .i64 pr) (by simp)
  have g6 := cell_regrown (w := w.alloc (.cells #[.int .i64 4, .int .i64 s, .bool on, .string ⟨c.toArray⟩, .int .i64 sh, .int .i64 pr, .int .i64 si, .string ⟨st.toArray⟩, .int .u64 sum, v] 34)) (a := ⟨w.heap.size, 6, none⟩) (v := .int .i64 si) (by simp)
  have g7 := cell_regrown (w := w.alloc (.cells #[.int .i64 4, .int .i64 s, .bool on, .string ⟨c.toArray⟩, .int .i64 sh, .int .i64 pr, .int .i64 si, .string ⟨st.toArray⟩, .int .u64 sum, v] 34)) (a := ⟨w.heap.size, 7, none⟩) (v := .string ⟨st.toArray⟩) (by simp)
  have g8 := cell_regrown (w := w.alloc (.cells #[.int .i64 4, .int .i64 s, .bool on, .string ⟨c.toArray⟩, .int .i64 sh, .int .i64 pr, .int .i64 si, .string ⟨st.toArray⟩, .int .u64 sum, v] 34)) (a := ⟨w.heap.size, 8, none⟩) (v := .int .u64 sum) (by simp)
  have g9 := cell_regrown (w := w.alloc (.cells #[.int .i64 4, .int .i64 s, .bool on, .string ⟨c.toArray⟩, .int .i64 sh, .int .i64 pr, .int .i64 si, .string ⟨st.toArray⟩, .int .u64 sum, v] 34)) (a := ⟨w.heap.size, 9, none⟩) (v := v) (by simp)
  have HK : Hid (∀ d os, Calls Try.prog 70 #[.agg #[.int .i64 4, .int .i64 s, .bool on, .string ⟨c.toArray⟩, .int .i64 sh, .int .i64 pr, .int .i64 si, .string ⟨st.toArray⟩, .int .u64 sum, v]] (Sort.grow (redrawn (w.alloc (.cells #[.int .i64 4, .int .i64 s, .bool on, .string ⟨c.toArray⟩, .int .i64 sh, .int .i64 pr, .int .i64 si, .string ⟨st.toArray⟩, .int .u64 sum, v] 34)) d) os) fun e w'' => e = .returned (.bool (frRest ⟨4, s, on, c, ⟨sh, pr, si, st⟩, sum, t⟩)) ∧ ∃ p : Regrown, w'' = Sort.grow (redrawn (w.alloc (.cells #[.int .i64 4, .int .i64 s, .bool on, .string ⟨c.toArray⟩, .int .i64 sh, .int .i64 pr, .int .i64 si, .string ⟨st.toArray⟩, .int .u64 sum, v] 34)) p.d) p.os) := Lib.hid fun d os =>
    Calls.regrown_of ((mayResync_any ((hv.later B0.out).later (below_regrown _ d os)) 4 s on c sh pr si st sum hc hs).mono fun e w' h => ⟨h.1.trans (by unfold frRest; simp), h.2⟩)
  have hix : ∀ w, (Instr.index 78 kindsV (.int .i64 4)).run Try.prog w = .ok (.agg #[.func (.func 70) #[] #[], .func (.func 71) #[] #[], .func (.func 72) #[] #[]]) w := fun _ => by kernel_rfl
  have hfd : ∀ w, (Instr.field 77 (.agg #[.func (.func 70) #[] #[], .func (.func 71) #[] #[], .func (.func 72) #[] #[]]) 0).run Try.prog w = .ok (.func (.func 70) #[] #[]) w := fun _ => by kernel_rfl
  have HKD := Lib.hid kindsF_any
  have hm : frMay ⟨4, s, on, c, ⟨sh, pr, si, st⟩, sum, t⟩ = ((decide (0 ≤ s) && decide (s ≤ 1099511627776)) && frRest ⟨4, s, on, c, ⟨sh, pr, si, st⟩, sum, t⟩) := by unfold frMay; simp
  rw [hm]
  obtain ⟨r, hr⟩ : ∃ r, frRest ⟨4, s, on, c, ⟨sh, pr, si, st⟩, sum, t⟩ = r := ⟨_, rfl⟩
  rw [hr] at HK ⊢
  clear hr hm hv hsh hc hs
  by_cases h0 : 0 ≤ s
  · by_cases h1 : s ≤ 1099511627776
    · rw [show ((decide (0 ≤ s) && decide (s ≤ 1099511627776)) && r) = r by simp [h0, h1]]
      go_enter Try.func25, Try.ntmps25
      go_wp2_with fail
      refine wp_region_quiet_below (by kernel_rfl) (by kernel_rfl) ?_
      repeat (go_big_quiet_step (first | with_reducible exact rgS HI.out _ _ _ | with_reducible exact rgB HKD.out _ _ _ | with_reducible exact HK.out _ _))
      refine wpQuiet_nil ?_
      intro w5 hw5
      have B5 := Lib.hid (below2' B0.out (below_regrownF hw5))
      clear hw5 g0 g1 g2 g3 g4 g5 g6 g7 g8 g9
      go_wp2_with fail
      go_ret
      exact ⟨rfl, B5.out⟩
    · rw [show ((decide (0 ≤ s) && decide (s ≤ 1099511627776)) && r) = false by simp [h1]]
      have t1 : decide (s ≤ 1099511627776) = false := by simpa using h1
      go_enter Try.func25, Try.ntmps25
      go_wp2_with fail
      refine wp_region_quiet_below (by kernel_rfl) (by kernel_rfl) ?_
      repeat (go_big_quiet_step (with_reducible exact rgS HI.out _ _ _))
      refine wpQuiet_nil ?_
      intro w5 hw5
      have B5 := Lib.hid (below2' B0.out (below_regrownF hw5))
      clear hw5 g0 g1 g2 g3 g4 g5 g6 g7 g8 g9
      go_wp2_with fail
      go_ret
      exact ⟨rfl, B5.out⟩
  · rw [show ((decide (0 ≤ s) && decide (s ≤ 1099511627776)) && r) = false by simp [h0]]
    have t1 : decide (0 ≤ s) = false := by simpa using h0
    go_enter Try.func25, Try.ntmps25
    go_wp2_with fail
    refine wp_region_quiet_below (by kernel_rfl) (by kernel_rfl) ?_
    repeat (go_big_quiet_step (with_reducible exact rgS HI.out _ _ _))
    refine wpQuiet_nil ?_
    intro w5 hw5
    have B5 := Lib.hid (below2' B0.out (below_regrownF hw5))
    clear hw5 g0 g1 g2 g3 g4 g5 g6 g7 g8 g9
    go_wp2_with fail
    go_ret
    exact ⟨rfl, B5.out⟩

theorem frmay_any {w : World} {v : Value} {t : List Row} (hv : Tab w v t) (hsh : Short t) (k s : Int) (on : Bool) (c : List UInt8) (sh pr si : Int) (st : List UInt8) (sum : Nat) (hc : c.length ≤ 4294967296) (hs : st.length ≤ 4294967296) :
    Calls Try.prog 25 #[.agg #[.int .i64 k, .int .i64 s, .bool on, .string ⟨c.toArray⟩, .int .i64 sh, .int .i64 pr, .int .i64 si, .string ⟨st.toArray⟩, .int .u64 sum, v]] w fun e w' => e = .returned (.bool (frMay ⟨k, s, on, c, ⟨sh, pr, si, st⟩, sum, t⟩)) ∧ Below w.heap.size w w' := by
  by_cases h : k < 1 ∨ 4 < k
  · have : frMay ⟨k, s, on, c, ⟨sh, pr, si, st⟩, sum, t⟩ = false := by
      unfold frMay
      rcases h with h | h
      · rw [show decide (1 ≤ k) = false by simp; omega]; rfl
      · rw [show decide (k ≤ 4) = false by simp; omega]; simp
    rw [this]
    exact frmay_out k s on c sh pr si st sum v h w
  · have hk : k = 1 ∨ k = 2 ∨ k = 3 ∨ k = 4 := by omega
    rcases hk with rfl | rfl | rfl | rfl
    · exact frmay_1 hv hsh s on c sh pr si st sum hc hs
    · exact frmay_2 hv hsh s on c sh pr si st sum hc hs
    · exact frmay_3 hv hsh s on c sh pr si st sum hc hs
    · exact frmay_4 hv hsh s on c sh pr si st sum hc hs

end Go.Proofs.Ytekkofldhhdpgaa
