/-
  LAYER 11, THE CODE's: the slots of a session; whether one is better; which of two values is worth more.
-/
import Derived.Test.YtkmbnpjnjlcjmaaBesLead
import Derived.Test.YtkmbnpjnjlcjmaaSesRow
import Derived.Test.YtkmbnpjnjlcjmaaHeaBet
namespace Go.Proofs.Ytkmbnpjnjlcjmaa
open Go.RowKit

set_option maxHeartbeats 800000 in
set_option maxRecDepth 100000 in
theorem bslot_any (k st : List UInt8) (id a b c : Int) (w : World) :
    Calls Try.prog 65 #[.agg #[.string ⟨k.toArray⟩, .int .i64 id, .int .i64 a, .int .i64 b, .int .i64 c, .string ⟨st.toArray⟩]] w fun e w' => e = .returned (.agg #[.int .i64 id, .int .i64 b, .int .i64 c, .int .i64 0]) ∧ Below w.heap.size w w' := by
  go_enter Try.func65, Try.ntmps65
  go_wp2_with fail
  refine bodyPost_ret (v := .agg #[.int .i64 id, .int .i64 b, .int .i64 c, .int .i64 0]) (by simp [results, Try.results65, go_sem]) rfl ⟨rfl, ?_⟩
  repeat (first | exact Below.refl _ _ | refine Below.setCell ?_ (by first | (simp; done) | (simp; omega)) _ | refine Below.alloc ?_ (by first | (simp; done) | (simp; omega)) _)

set_option maxHeartbeats 800000 in
set_option maxRecDepth 100000 in
theorem bshown_any (k st : List UInt8) (id a b c : Int) (w : World) :
    Calls Try.prog 66 #[.agg #[.string ⟨k.toArray⟩, .int .i64 id, .int .i64 a, .int .i64 b, .int .i64 c, .string ⟨st.toArray⟩]] w fun e w' => e = .returned (.agg #[.int .i64 id, .int .i64 a, .int .i64 b, .int .i64 c]) ∧ Below w.heap.size w w' := by
  go_enter Try.func66, Try.ntmps66
  go_wp2_with fail
  refine bodyPost_ret (v := .agg #[.int .i64 id, .int .i64 a, .int .i64 b, .int .i64 c]) (by simp [results, Try.results66, go_sem]) rfl ⟨rfl, ?_⟩
  repeat (first | exact Below.refl _ _ | refine Below.setCell ?_ (by first | (simp; done) | (simp; omega)) _ | refine Below.alloc ?_ (by first | (simp; done) | (simp; omega)) _)

set_option maxHeartbeats 1600000 in
set_option maxRecDepth 100000 in
theorem bworth_eq (a b c a' b' c' : Int) (st st' : List UInt8) (ha : (Lit.int .i64 a).wf = true) (hb : (Lit.int .i64 b).wf = true) (ha' : (Lit.int .i64 a').wf = true) (hb' : (Lit.int .i64 b').wf = true) {r : Int} (hr : worth ⟨a, b, c, st⟩ ⟨a', b', c', st'⟩ = r) (w : World) :
    Calls Try.prog 67 #[.agg #[.int .i64 a, .int .i64 b, .int .i64 c, .string ⟨st.toArray⟩], .agg #[.int .i64 a', .int .i64 b', .int .i64 c', .string ⟨st'.toArray⟩]] w fun e w' => e = .returned (.int .i64 r) ∧ Below w.heap.size w w' := by
  have hl := lead2_worth ⟨a, b, c, st⟩ ⟨a', b', c', st'⟩
  rw [hr] at hl
  have H1 : Hid (∀ w, Calls Try.prog 91 #[.int .i64 a, .int .i64 b] w fun e w' => e = .returned (pairV a b) ∧ Below w.heap.size w w') := Lib.hid (pairOf_any a b ha hb)
  have H2 : Hid (∀ w, Calls Try.prog 91 #[.int .i64 a', .int .i64 b'] w fun e w' => e = .returned (pairV a' b') ∧ Below w.heap.size w w') := Lib.hid (pairOf_any a' b' ha' hb')
  have H3 : Hid (∀ w, Calls Try.prog 90 #[pairV a b, pairV a' b'] w fun e w' => e = .returned (.int .i64 r) ∧ Below w.heap.size w w') := by
    have := lead_any a b a' b' ha hb ha' hb'
    simp only at hl
    rw [hl] at this
    exact Lib.hid this
  clear hl hr
  generalize hp : pairV a b = p at H1 H3
  generalize hq : pairV a' b' = q at H2 H3
  clear hp hq
  have B0 : Hid (Below w.heap.size w ((w.alloc (.cells #[.int .i64 a, .int .i64 b, .int .i64 c, .string ⟨st.toArray⟩] 32)).alloc (.cells #[.int .i64 a', .int .i64 b', .int .i64 c', .string ⟨st'.toArray⟩] 32))) := Lib.hid (((Below.refl _ _).alloc (Nat.le_refl _) _).alloc (by simp) _)
  have X1 := (cellsAt_made (w := w) (cs := #[.int .i64 a, .int .i64 b, .int .i64 c, .string ⟨st.toArray⟩]) (vs := [.int .i64 a, .int .i64 b, .int .i64 c, .string ⟨st.toArray⟩]) rfl 32 rfl).later (bl_newZ _ (.cells #[.int .i64 a', .int .i64 b', .int .i64 c', .string ⟨st'.toArray⟩] 32))
  have X2 := cellsAt_made (w := w.alloc (.cells #[.int .i64 a, .int .i64 b, .int .i64 c, .string ⟨st.toArray⟩] 32)) (cs := #[.int .i64 a', .int .i64 b', .int .i64 c', .string ⟨st'.toArray⟩]) (vs := [.int .i64 a', .int .i64 b', .int .i64 c', .string ⟨st'.toArray⟩]) rfl 32 (B := w.heap.size + 1) (by simp)
  have x0 := cell_regrown (X1 0 _ rfl)
  have x1 := cell_regrown (X1 1 _ rfl)
  have y0 := cell_regrown (X2 0 _ rfl)
  have y1 := cell_regrown (X2 1 _ rfl)
  simp only [Nat.zero_add] at x0 x1 y0 y1
  clear X1 X2
  go_enter Try.func67, Try.ntmps67
  go_wp2_with fail
  generalize (w.alloc (.cells #[.int .i64 a, .int .i64 b, .int .i64 c, .string ⟨st.toArray⟩] 32)).alloc (.cells #[.int .i64 a', .int .i64 b', .int .i64 c', .string ⟨st'.toArray⟩] 32) = w1 at B0 x0 x1 y0 y1 ⊢
  refine wp_region_quiet_below (by kernel_rfl) (by kernel_rfl) ?_
  repeat (go_big_quiet_step (first | with_reducible exact rgB H1.out _ _ _ | with_reducible exact rgB H2.out _ _ _ | with_reducible exact rgB H3.out _ _ _))
  refine wpQuiet_nil ?_
  intro w5 hw
  have b := regrownZ hw
  have B5 := Lib.hid (below2Z B0.out b)
  clear hw b x0 x1 y0 y1
  go_wp2_with fail
  go_ret
  exact ⟨rfl, B5.out⟩

set_option maxHeartbeats 1600000 in
set_option maxRecDepth 100000 in
theorem isBetter_eq (k st : List UInt8) (id a b c : Int) (k' st' : List UInt8) (id' a' b' c' : Int) (hb : (Lit.int .i64 b).wf = true) (hc : (Lit.int .i64 c).wf = true) (hb' : (Lit.int .i64 b').wf = true) (hc' : (Lit.int .i64 c').wf = true) {r : Bool} (hr : sbet ⟨k, id, ⟨a, b, c, st⟩⟩ ⟨k', id', ⟨a', b', c', st'⟩⟩ = r) (w : World) :
    Calls Try.prog 89 #[.agg #[.string ⟨k.toArray⟩, .int .i64 id, .int .i64 a, .int .i64 b, .int .i64 c, .string ⟨st.toArray⟩], .agg #[.string ⟨k'.toArray⟩, .int .i64 id', .int .i64 a', .int .i64 b', .int .i64 c', .string ⟨st'.toArray⟩]] w fun e w' => e = .returned (.bool r) ∧ Below w.heap.size w w' := by
  have hl := lead2_sbet ⟨k, id, ⟨a, b, c, st⟩⟩ ⟨k', id', ⟨a', b', c', st'⟩⟩
  rw [hr] at hl
  simp only [besSlot] at hl
  obtain ⟨n, hn⟩ : ∃ n, lead2 b c b' c' = n := ⟨_, rfl⟩
  rw [hn] at hl
  have H1 : Hid (∀ w, Calls Try.prog 91 #[.int .i64 b, .int .i64 c] w fun e w' => e = .returned (pairV b c) ∧ Below w.heap.size w w') := Lib.hid (pairOf_any b c hb hc)
  have H2 : Hid (∀ w, Calls Try.prog 91 #[.int .i64 b', .int .i64 c'] w fun e w' => e = .returned (pairV b' c') ∧ Below w.heap.size w w') := Lib.hid (pairOf_any b' c' hb' hc')
  have H3 : Hid (∀ w, Calls Try.prog 90 #[pairV b c, pairV b' c'] w fun e w' => e = .returned (.int .i64 n) ∧ Below w.heap.size w w') := by
    have := lead_any b c b' c' hb hc hb' hc'
    rw [hn] at this
    exact Lib.hid this
  clear hr hn hb hc hb' hc'
  generalize hp : pairV b c = p at H1 H3
  generalize hq : pairV b' c' = q at H2 H3
  clear hp hq
  obtain ⟨W, hW⟩ : ∃ W, W = (w.alloc (.cells #[.string ⟨k.toArray⟩, .int .i64 id, .int .i64 a, .int .i64 b, .int .i64 c, .string ⟨st.toArray⟩] 34)).alloc (.cells #[.string ⟨k'.toArray⟩, .int .i64 id', .int .i64 a', .int .i64 b', .int .i64 c', .string ⟨st'.toArray⟩] 34) := ⟨_, rfl⟩
  have B0 : Hid (Below w.heap.size w W) := by show Below _ _ _; rw [hW]; exact ((Below.refl _ _).alloc (Nat.le_refl _) _).alloc (by simp) _
  have X1 : Hid (CellsAt W w.heap.size 0 (sesVals ⟨k, id, ⟨a, b, c, st⟩⟩)) := by
    show CellsAt _ _ _ _
    rw [hW]
    exact (cellsAt_made (w := w) rfl 34 rfl).later (bl_newZ _ _)
  have X2 : Hid (CellsAt W (w.heap.size + 1) 0 (sesVals ⟨k', id', ⟨a', b', c', st'⟩⟩)) := by
    show CellsAt _ _ _ _
    rw [hW]
    exact cellsAt_made rfl 34 (B := w.heap.size + 1) (by simp)
  go_enter Try.func89, Try.ntmps89
  go_wp2_with fail
  rw [← hW]
  clear hW
  obtain ⟨x0, x1, x2, x3, x4, x5⟩ := cells6_regrown X1.out
  obtain ⟨y0, y1, y2, y3, y4, y5⟩ := cells6_regrown X2.out
  simp only [Nat.zero_add] at x0 x1 x2 x3 x4 x5 y0 y1 y2 y3 y4 y5
  refine wp_region_quiet_below (by kernel_rfl) (by kernel_rfl) ?_
  repeat (go_big_quiet_step (first | with_reducible exact rgB H1.out _ _ _ | with_reducible exact rgB H2.out _ _ _ | with_reducible exact rgB H3.out _ _ _))
  refine wpQuiet_nil ?_
  intro w5 hw
  have b5 := regrownZ hw
  have B5 := Lib.hid (below2Z B0.out b5)
  have Y1 := Lib.hid (X1.out.later b5)
  have Y2 := Lib.hid (X2.out.later b5)
  clear hw b5 x0 x1 x2 x3 x4 x5 y0 y1 y2 y3 y4 y5 X1 X2 H1 H2 H3
  by_cases h0 : 0 < n
  · have t0 : decide (0 < n) = true := by simpa using h0
    have HR : Hid (true = r) := by show _ = _; rw [← hl, t0]; rfl
    clear h0 hl Y1 Y2
    go_wp2_with fail
    refine wp_region_quiet_below (by kernel_rfl) (by kernel_rfl) ?_
    repeat (go_big_quiet_step (fail))
    refine wpQuiet_nil ?_
    intro w6 hw
    have b6 := regrownZ hw
    have B6 := Lib.hid (below2Z B5.out b6)
    clear hw b6
    go_wp2_with fail
    go_ret
    exact ⟨by rw [← HR.out]; rfl, B6.out⟩
  · have t0 : decide (0 < n) = false := by simpa using h0
    by_cases h1 : n = 0
    · subst h1
      have H4 : Hid (∀ w, Calls Try.prog 115 #[.agg #[.int .i64 id, .int .i64 b, .int .i64 c, .int .i64 0], .agg #[.int .i64 id', .int .i64 b', .int .i64 c', .int .i64 0]] w fun e w' => e = .returned (.bool r) ∧ Below w.heap.size w w') := by
        have := better_any id b c 0 id' b' c' 0
        rw [show slBet ⟨id, b, c, 0⟩ ⟨id', b', c', 0⟩ = r by rw [← hl]; simp] at this
        exact Lib.hid this
      have HS1 : Hid (∀ w, Calls Try.prog 65 #[.agg #[.string ⟨k.toArray⟩, .int .i64 id, .int .i64 a, .int .i64 b, .int .i64 c, .string ⟨st.toArray⟩]] w fun e w' => e = .returned (.agg #[.int .i64 id, .int .i64 b, .int .i64 c, .int .i64 0]) ∧ Below w.heap.size w w') := Lib.hid (bslot_any k st id a b c)
      have HS2 : Hid (∀ w, Calls Try.prog 65 #[.agg #[.string ⟨k'.toArray⟩, .int .i64 id', .int .i64 a', .int .i64 b', .int .i64 c', .string ⟨st'.toArray⟩]] w fun e w' => e = .returned (.agg #[.int .i64 id', .int .i64 b', .int .i64 c', .int .i64 0]) ∧ Below w.heap.size w w') := Lib.hid (bslot_any k' st' id' a' b' c')
      obtain ⟨x0, x1, x2, x3, x4, x5⟩ := cells6_regrown Y1.out
      obtain ⟨y0, y1, y2, y3, y4, y5⟩ := cells6_regrown Y2.out
      simp only [Nat.zero_add] at x0 x1 x2 x3 x4 x5 y0 y1 y2 y3 y4 y5
      clear h0 hl Y1 Y2 t0
      go_wp2_with fail
      refine wp_region_quiet_below (by kernel_rfl) (by kernel_rfl) ?_
      repeat (go_big_quiet_step (first | with_reducible exact rgB HS1.out _ _ _ | with_reducible exact rgB HS2.out _ _ _ | with_reducible exact rgB H4.out _ _ _))
      refine wpQuiet_nil ?_
      intro w6 hw
      have b6 := regrownZ hw
      have B6 := Lib.hid (below2Z B5.out b6)
      clear hw b6
      go_wp2_with fail
      go_ret
      exact ⟨rfl, B6.out⟩
    · have t1 : (n == 0) = false := by rw [beq_eq_false_iff_ne]; exact h1
      have HR : Hid (false = r) := by show _ = _; rw [← hl, t0]; simp [h1]
      clear h0 h1 hl Y1 Y2
      go_wp2_with fail
      refine wp_region_quiet_below (by kernel_rfl) (by kernel_rfl) ?_
      repeat (go_big_quiet_step (fail))
      refine wpQuiet_nil ?_
      intro w6 hw
      have b6 := regrownZ hw
      have B6 := Lib.hid (below2Z B5.out b6)
      clear hw b6
      go_wp2_with fail
      go_ret
      exact ⟨by rw [← HR.out]; rfl, B6.out⟩

end Go.Proofs.Ytkmbnpjnjlcjmaa
