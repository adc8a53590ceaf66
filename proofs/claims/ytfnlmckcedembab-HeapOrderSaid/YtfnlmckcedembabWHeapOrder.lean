/-
  THE WALK OF HeapOrder.
-/
import Derived.Test.YtfnlmckcedembabHeaEq
import Derived.Test.YtfnlmckcedembabHeaLive
namespace Go.Proofs.Ytfnlmckcedembab
open Go.RowKit

theorem threeO {α : Type} {l : List α} (h : l.length = 3) : ∃ a b c, l = [a, b, c] := by
  match l, h with
  | [a, b, c], _ => exact ⟨a, b, c, rfl⟩

theorem nineO {α : Type} {l : List α} (h : l.length = 9) : ∃ a b c d e f g i j, l = [a, b, c, d, e, f, g, i, j] := by
  match l, h with
  | [a, b, c, d, e, f, g, i, j], _ => exact ⟨a, b, c, d, e, f, g, i, j, rfl⟩

/-- The slots that have been laid so far. -/
def ordC (a b c : Sl) : Nat → Array Value
  | 0 => #[.int .i64 0, .int .i64 0, .int .i64 0, .int .i64 0, .int .i64 0, .int .i64 0, .int .i64 0, .int .i64 0, .int .i64 0, .int .i64 0, .int .i64 0, .int .i64 0]
  | 1 => #[.int .i64 a.id, .int .i64 a.r0, .int .i64 a.r1, .int .i64 a.r2, .int .i64 0, .int .i64 0, .int .i64 0, .int .i64 0, .int .i64 0, .int .i64 0, .int .i64 0, .int .i64 0]
  | 2 => #[.int .i64 a.id, .int .i64 a.r0, .int .i64 a.r1, .int .i64 a.r2, .int .i64 b.id, .int .i64 b.r0, .int .i64 b.r1, .int .i64 b.r2, .int .i64 0, .int .i64 0, .int .i64 0, .int .i64 0]
  | _ => #[.int .i64 a.id, .int .i64 a.r0, .int .i64 a.r1, .int .i64 a.r2, .int .i64 b.id, .int .i64 b.r0, .int .i64 b.r1, .int .i64 b.r2, .int .i64 c.id, .int .i64 c.r0, .int .i64 c.r1, .int .i64 c.r2]

theorem slSame_no {a b : Sl} (h : a ≠ b) : slSame a b = false := by
  rw [Bool.eq_false_iff]
  exact fun e => h (slSame_iff.1 e)

set_option maxHeartbeats 6400000 in
set_option maxRecDepth 100000 in
theorem walkHeapOrder {w : World} (ids : List Int) (hi : ids.length = 3 ∧ ∀ z ∈ ids, (Lit.int .i64 z).wf = true) (rs : List Int) (hr : rs.length = 9) :
    Calls Try.prog 6 #[.agg (ids.map (Value.int .i64)).toArray, .agg (rs.map (Value.int .i64)).toArray] w fun e w' => e = .returned (.bool true) ∧ Below w.heap.size w w' := by
  obtain ⟨ai, bi, ci, rfl⟩ := threeO hi.1
  obtain ⟨a0, a1, a2, b0, b1, b2, c0, c1, c2, rfl⟩ := nineO hr
  simp only [List.map_cons, List.map_nil]
  clear hi hr
  have B0 := Lib.hid (show Below w.heap.size w (((w.alloc (.cells #[.int .i64 ai, .int .i64 bi, .int .i64 ci] 30)).alloc (.cells #[.int .i64 a0, .int .i64 a1, .int .i64 a2, .int .i64 b0, .int .i64 b1, .int .i64 b2, .int .i64 c0, .int .i64 c1, .int .i64 c2] 55)).alloc (.cells #[.int .i64 0, .int .i64 0, .int .i64 0, .int .i64 0, .int .i64 0, .int .i64 0, .int .i64 0, .int .i64 0, .int .i64 0, .int .i64 0, .int .i64 0, .int .i64 0] 56)) from (((Below.refl _ _).alloc (Nat.le_refl _) _).alloc (by simp) _).alloc (by simp; omega) _)
  have X0 := Lib.hid (show (((w.alloc (.cells #[.int .i64 ai, .int .i64 bi, .int .i64 ci] 30)).alloc (.cells #[.int .i64 a0, .int .i64 a1, .int .i64 a2, .int .i64 b0, .int .i64 b1, .int .i64 b2, .int .i64 c0, .int .i64 c1, .int .i64 c2] 55)).alloc (.cells #[.int .i64 0, .int .i64 0, .int .i64 0, .int .i64 0, .int .i64 0, .int .i64 0, .int .i64 0, .int .i64 0, .int .i64 0, .int .i64 0, .int .i64 0, .int .i64 0] 56)).heap[w.heap.size + 1 + 1]? = some (.cells (ordC ⟨ai, a0, a1, a2⟩ ⟨bi, b0, b1, b2⟩ ⟨ci, c0, c1, c2⟩ 0) 56 (0, 0)) by
    have hs : ((w.alloc (.cells #[.int .i64 ai, .int .i64 bi, .int .i64 ci] 30)).alloc (.cells #[.int .i64 a0, .int .i64 a1, .int .i64 a2, .int .i64 b0, .int .i64 b1, .int .i64 b2, .int .i64 c0, .int .i64 c1, .int .i64 c2] 55)).heap.size = w.heap.size + 1 + 1 := by simp
    rw [← hs]
    exact heap_alloc_new _ _)
  have bb1 := bl_newZ ((w.alloc (.cells #[.int .i64 ai, .int .i64 bi, .int .i64 ci] 30)).alloc (.cells #[.int .i64 a0, .int .i64 a1, .int .i64 a2, .int .i64 b0, .int .i64 b1, .int .i64 b2, .int .i64 c0, .int .i64 c1, .int .i64 c2] 55)) (.cells #[.int .i64 0, .int .i64 0, .int .i64 0, .int .i64 0, .int .i64 0, .int .i64 0, .int .i64 0, .int .i64 0, .int .i64 0, .int .i64 0, .int .i64 0, .int .i64 0] 56)
  have bb2 := below2Z (bl_newZ (w.alloc (.cells #[.int .i64 ai, .int .i64 bi, .int .i64 ci] 30)) (.cells #[.int .i64 a0, .int .i64 a1, .int .i64 a2, .int .i64 b0, .int .i64 b1, .int .i64 b2, .int .i64 c0, .int .i64 c1, .int .i64 c2] 55)) bb1
  have hI := Lib.hid ((cellsAt_made (w := w) (cs := #[.int .i64 ai, .int .i64 bi, .int .i64 ci]) (vs := [.int .i64 ai, .int .i64 bi, .int .i64 ci]) rfl 30 rfl).later bb2)
  have hR := Lib.hid ((cellsAt_made (w := w.alloc (.cells #[.int .i64 ai, .int .i64 bi, .int .i64 ci] 30)) (cs := #[.int .i64 a0, .int .i64 a1, .int .i64 a2, .int .i64 b0, .int .i64 b1, .int .i64 b2, .int .i64 c0, .int .i64 c1, .int .i64 c2]) (vs := [.int .i64 a0, .int .i64 a1, .int .i64 a2, .int .i64 b0, .int .i64 b1, .int .i64 b2, .int .i64 c0, .int .i64 c1, .int .i64 c2]) rfl 55 (B := w.heap.size + 1) (by simp)).later bb1)
  clear bb1 bb2
  go_enter Try.func6, Try.ntmps6
  go_wp2_with fail
  generalize (((w.alloc (.cells #[.int .i64 ai, .int .i64 bi, .int .i64 ci] 30)).alloc (.cells #[.int .i64 a0, .int .i64 a1, .int .i64 a2, .int .i64 b0, .int .i64 b1, .int .i64 b2, .int .i64 c0, .int .i64 c1, .int .i64 c2] 55)).alloc (.cells #[.int .i64 0, .int .i64 0, .int .i64 0, .int .i64 0, .int .i64 0, .int .i64 0, .int .i64 0, .int .i64 0, .int .i64 0, .int .i64 0, .int .i64 0, .int .i64 0] 56)) = wA at B0 X0 hI hR ⊢
  have hXs : w.heap.size + 1 < w.heap.size + 1 + 1 := by omega
  generalize hX : w.heap.size + 1 + 1 = X at X0 hXs ⊢
  have n1 : ¬ w.heap.size = X := by omega
  have n2 : ¬ X = w.heap.size := by omega
  have n3 : ¬ w.heap.size + 1 = X := by omega
  have n4 : ¬ X = w.heap.size + 1 := by omega
  go_loopw [6] (fun i wr => ∃ k : Nat, k ≤ 3 ∧ i = .int .i64 k ∧ Hid (wr.heap[X]? = some (.cells (ordC ⟨ai, a0, a1, a2⟩ ⟨bi, b0, b1, b2⟩ ⟨ci, c0, c1, c2⟩ k) 56 (0, 0))) ∧ Hid (Below (X) wA wr)) (fun i _ => 3 - (intOf i).toNat)
  case atStart => exact ⟨0, by omega, rfl, X0, Below.refl _ _⟩
  case round =>
    clear X0
    obtain ⟨k, hk, rfl, HX, HB⟩ := hrel
    have h3 : k = 0 ∨ k = 1 ∨ k = 2 ∨ k = 3 := by omega
    rcases h3 with rfl | rfl | rfl | rfl
    · have p0 := (HB.out.cell (p := ⟨w.heap.size, 0, none⟩) (by show w.heap.size < _; omega)).trans (show _ = some (.int .i64 ai) from hI.out 0 _ rfl)
      have q0 := (HB.out.cell (p := ⟨w.heap.size + 1, 0, none⟩) (by show w.heap.size + 1 < _; omega)).trans (show _ = some (.int .i64 a0) from hR.out 0 _ rfl)
      have q1 := (HB.out.cell (p := ⟨w.heap.size + 1, 1, none⟩) (by show w.heap.size + 1 < _; omega)).trans (show _ = some (.int .i64 a1) from hR.out 1 _ rfl)
      have q2 := (HB.out.cell (p := ⟨w.heap.size + 1, 2, none⟩) (by show w.heap.size + 1 < _; omega)).trans (show _ = some (.int .i64 a2) from hR.out 2 _ rfl)
      have z0 : wr.cell? ⟨X, 0, none⟩ = some (.int .i64 0) := cell_of_row wr (X) 0 _ _ (0, 0) HX.out
      have f0 : wr.frozen? ⟨X, 0, none⟩ = false := frozen_of_row wr (X) 0 _ _ HX.out
      have z1 : wr.cell? ⟨X, 1, none⟩ = some (.int .i64 0) := cell_of_row wr (X) 1 _ _ (0, 0) HX.out
      have f1 : wr.frozen? ⟨X, 1, none⟩ = false := frozen_of_row wr (X) 1 _ _ HX.out
      have z2 : wr.cell? ⟨X, 2, none⟩ = some (.int .i64 0) := cell_of_row wr (X) 2 _ _ (0, 0) HX.out
      have f2 : wr.frozen? ⟨X, 2, none⟩ = false := frozen_of_row wr (X) 2 _ _ HX.out
      have z3 : wr.cell? ⟨X, 3, none⟩ = some (.int .i64 0) := cell_of_row wr (X) 3 _ _ (0, 0) HX.out
      have f3 : wr.frozen? ⟨X, 3, none⟩ = false := frozen_of_row wr (X) 3 _ _ HX.out
      have g1 := heap_setCell_same wr (X) 0 _ _ (.int .i64 ai) HX.out
      have g2 := heap_setCell_same _ (X) 1 _ _ (.int .i64 a0) g1
      have g3 := heap_setCell_same _ (X) 2 _ _ (.int .i64 a1) g2
      have g4 := heap_setCell_same _ (X) 3 _ _ (.int .i64 a2) g3
      have HX2 : Hid (((((wr.setCell ⟨X, 0, none⟩ (.int .i64 ai)).setCell ⟨X, 1, none⟩ (.int .i64 a0)).setCell ⟨X, 2, none⟩ (.int .i64 a1)).setCell ⟨X, 3, none⟩ (.int .i64 a2)).drew.heap[X]? = some (.cells (ordC ⟨ai, a0, a1, a2⟩ ⟨bi, b0, b1, b2⟩ ⟨ci, c0, c1, c2⟩ (0 + 1)) 56 (0, 0))) := g4
      have HB2 : Hid (Below (X) wA ((((wr.setCell ⟨X, 0, none⟩ (.int .i64 ai)).setCell ⟨X, 1, none⟩ (.int .i64 a0)).setCell ⟨X, 2, none⟩ (.int .i64 a1)).setCell ⟨X, 3, none⟩ (.int .i64 a2)).drew) := (((((HB.out.setCell (Nat.le_refl _) _).setCell (Nat.le_refl _) _).setCell (Nat.le_refl _) _).setCell (Nat.le_refl _) _)).drew
      clear g1 g2 g3 g4
      go_wp2_with fail
      go_region_held (fun W => W.cell? ⟨w.heap.size, 0, none⟩ = some (.int .i64 ai) ∧ W.cell? ⟨w.heap.size + 1, 0, none⟩ = some (.int .i64 a0) ∧ W.cell? ⟨w.heap.size + 1, 1, none⟩ = some (.int .i64 a1) ∧ W.cell? ⟨w.heap.size + 1, 2, none⟩ = some (.int .i64 a2)) (go_keep) (fail)
      clear p0 q0 q1 q2 z0 z1 z2 z3 f0 f1 f2 f3
      go_wp2_with fail
      go_roundw
      case rel => exact ⟨0 + 1, by omega, rfl, HX2, HB2⟩
      case measure => simp [intOf]
    · have p0 := (HB.out.cell (p := ⟨w.heap.size, 1, none⟩) (by show w.heap.size < _; omega)).trans (show _ = some (.int .i64 bi) from hI.out 1 _ rfl)
      have q0 := (HB.out.cell (p := ⟨w.heap.size + 1, 3, none⟩) (by show w.heap.size + 1 < _; omega)).trans (show _ = some (.int .i64 b0) from hR.out 3 _ rfl)
      have q1 := (HB.out.cell (p := ⟨w.heap.size + 1, 4, none⟩) (by show w.heap.size + 1 < _; omega)).trans (show _ = some (.int .i64 b1) from hR.out 4 _ rfl)
      have q2 := (HB.out.cell (p := ⟨w.heap.size + 1, 5, none⟩) (by show w.heap.size + 1 < _; omega)).trans (show _ = some (.int .i64 b2) from hR.out 5 _ rfl)
      have z0 : wr.cell? ⟨X, 4, none⟩ = some (.int .i64 0) := cell_of_row wr (X) 4 _ _ (0, 0) HX.out
      have f0 : wr.frozen? ⟨X, 4, none⟩ = false := frozen_of_row wr (X) 4 _ _ HX.out
      have z1 : wr.cell? ⟨X, 5, none⟩ = some (.int .i64 0) := cell_of_row wr (X) 5 _ _ (0, 0) HX.out
      have f1 : wr.frozen? ⟨X, 5, none⟩ = false := frozen_of_row wr (X) 5 _ _ HX.out
      have z2 : wr.cell? ⟨X, 6, none⟩ = some (.int .i64 0) := cell_of_row wr (X) 6 _ _ (0, 0) HX.out
      have f2 : wr.frozen? ⟨X, 6, none⟩ = false := frozen_of_row wr (X) 6 _ _ HX.out
      have z3 : wr.cell? ⟨X, 7, none⟩ = some (.int .i64 0) := cell_of_row wr (X) 7 _ _ (0, 0) HX.out
      have f3 : wr.frozen? ⟨X, 7, none⟩ = false := frozen_of_row wr (X) 7 _ _ HX.out
      have g1 := heap_setCell_same wr (X) 4 _ _ (.int .i64 bi) HX.out
      have g2 := heap_setCell_same _ (X) 5 _ _ (.int .i64 b0) g1
      have g3 := heap_setCell_same _ (X) 6 _ _ (.int .i64 b1) g2
      have g4 := heap_setCell_same _ (X) 7 _ _ (.int .i64 b2) g3
      have HX2 : Hid (((((wr.setCell ⟨X, 4, none⟩ (.int .i64 bi)).setCell ⟨X, 5, none⟩ (.int .i64 b0)).setCell ⟨X, 6, none⟩ (.int .i64 b1)).setCell ⟨X, 7, none⟩ (.int .i64 b2)).drew.heap[X]? = some (.cells (ordC ⟨ai, a0, a1, a2⟩ ⟨bi, b0, b1, b2⟩ ⟨ci, c0, c1, c2⟩ (1 + 1)) 56 (0, 0))) := g4
      have HB2 : Hid (Below (X) wA ((((wr.setCell ⟨X, 4, none⟩ (.int .i64 bi)).setCell ⟨X, 5, none⟩ (.int .i64 b0)).setCell ⟨X, 6, none⟩ (.int .i64 b1)).setCell ⟨X, 7, none⟩ (.int .i64 b2)).drew) := (((((HB.out.setCell (Nat.le_refl _) _).setCell (Nat.le_refl _) _).setCell (Nat.le_refl _) _).setCell (Nat.le_refl _) _)).drew
      clear g1 g2 g3 g4
      go_wp2_with fail
      go_region_held (fun W => W.cell? ⟨w.heap.size, 1, none⟩ = some (.int .i64 bi) ∧ W.cell? ⟨w.heap.size + 1, 3, none⟩ = some (.int .i64 b0) ∧ W.cell? ⟨w.heap.size + 1, 4, none⟩ = some (.int .i64 b1) ∧ W.cell? ⟨w.heap.size + 1, 5, none⟩ = some (.int .i64 b2)) (go_keep) (fail)
      clear p0 q0 q1 q2 z0 z1 z2 z3 f0 f1 f2 f3
      go_wp2_with fail
      go_roundw
      case rel => exact ⟨1 + 1, by omega, rfl, HX2, HB2⟩
      case measure => simp [intOf]
    · have p0 := (HB.out.cell (p := ⟨w.heap.size, 2, none⟩) (by show w.heap.size < _; omega)).trans (show _ = some (.int .i64 ci) from hI.out 2 _ rfl)
      have q0 := (HB.out.cell (p := ⟨w.heap.size + 1, 6, none⟩) (by show w.heap.size + 1 < _; omega)).trans (show _ = some (.int .i64 c0) from hR.out 6 _ rfl)
      have q1 := (HB.out.cell (p := ⟨w.heap.size + 1, 7, none⟩) (by show w.heap.size + 1 < _; omega)).trans (show _ = some (.int .i64 c1) from hR.out 7 _ rfl)
      have q2 := (HB.out.cell (p := ⟨w.heap.size + 1, 8, none⟩) (by show w.heap.size + 1 < _; omega)).trans (show _ = some (.int .i64 c2) from hR.out 8 _ rfl)
      have z0 : wr.cell? ⟨X, 8, none⟩ = some (.int .i64 0) := cell_of_row wr (X) 8 _ _ (0, 0) HX.out
      have f0 : wr.frozen? ⟨X, 8, none⟩ = false := frozen_of_row wr (X) 8 _ _ HX.out
      have z1 : wr.cell? ⟨X, 9, none⟩ = some (.int .i64 0) := cell_of_row wr (X) 9 _ _ (0, 0) HX.out
      have f1 : wr.frozen? ⟨X, 9, none⟩ = false := frozen_of_row wr (X) 9 _ _ HX.out
      have z2 : wr.cell? ⟨X, 10, none⟩ = some (.int .i64 0) := cell_of_row wr (X) 10 _ _ (0, 0) HX.out
      have f2 : wr.frozen? ⟨X, 10, none⟩ = false := frozen_of_row wr (X) 10 _ _ HX.out
      have z3 : wr.cell? ⟨X, 11, none⟩ = some (.int .i64 0) := cell_of_row wr (X) 11 _ _ (0, 0) HX.out
      have f3 : wr.frozen? ⟨X, 11, none⟩ = false := frozen_of_row wr (X) 11 _ _ HX.out
      have g1 := heap_setCell_same wr (X) 8 _ _ (.int .i64 ci) HX.out
      have g2 := heap_setCell_same _ (X) 9 _ _ (.int .i64 c0) g1
      have g3 := heap_setCell_same _ (X) 10 _ _ (.int .i64 c1) g2
      have g4 := heap_setCell_same _ (X) 11 _ _ (.int .i64 c2) g3
      have HX2 : Hid (((((wr.setCell ⟨X, 8, none⟩ (.int .i64 ci)).setCell ⟨X, 9, none⟩ (.int .i64 c0)).setCell ⟨X, 10, none⟩ (.int .i64 c1)).setCell ⟨X, 11, none⟩ (.int .i64 c2)).drew.heap[X]? = some (.cells (ordC ⟨ai, a0, a1, a2⟩ ⟨bi, b0, b1, b2⟩ ⟨ci, c0, c1, c2⟩ (2 + 1)) 56 (0, 0))) := g4
      have HB2 : Hid (Below (X) wA ((((wr.setCell ⟨X, 8, none⟩ (.int .i64 ci)).setCell ⟨X, 9, none⟩ (.int .i64 c0)).setCell ⟨X, 10, none⟩ (.int .i64 c1)).setCell ⟨X, 11, none⟩ (.int .i64 c2)).drew) := (((((HB.out.setCell (Nat.le_refl _) _).setCell (Nat.le_refl _) _).setCell (Nat.le_refl _) _).setCell (Nat.le_refl _) _)).drew
      clear g1 g2 g3 g4
      go_wp2_with fail
      go_region_held (fun W => W.cell? ⟨w.heap.size, 2, none⟩ = some (.int .i64 ci) ∧ W.cell? ⟨w.heap.size + 1, 6, none⟩ = some (.int .i64 c0) ∧ W.cell? ⟨w.heap.size + 1, 7, none⟩ = some (.int .i64 c1) ∧ W.cell? ⟨w.heap.size + 1, 8, none⟩ = some (.int .i64 c2)) (go_keep) (fail)
      clear p0 q0 q1 q2 z0 z1 z2 z3 f0 f1 f2 f3
      go_wp2_with fail
      go_roundw
      case rel => exact ⟨2 + 1, by omega, rfl, HX2, HB2⟩
      case measure => simp [intOf]
    · have HW : Hid (Below w.heap.size w wr) := B0.out.trans (HB.out.mono (by omega))
      have z0 : wr.cell? ⟨X, 0, none⟩ = some (.int .i64 ai) := cell_of_row wr (X) 0 _ _ (0, 0) HX.out
      have z1 : wr.cell? ⟨X, 1, none⟩ = some (.int .i64 a0) := cell_of_row wr (X) 1 _ _ (0, 0) HX.out
      have z2 : wr.cell? ⟨X, 2, none⟩ = some (.int .i64 a1) := cell_of_row wr (X) 2 _ _ (0, 0) HX.out
      have z3 : wr.cell? ⟨X, 3, none⟩ = some (.int .i64 a2) := cell_of_row wr (X) 3 _ _ (0, 0) HX.out
      have z4 : wr.cell? ⟨X, 4, none⟩ = some (.int .i64 bi) := cell_of_row wr (X) 4 _ _ (0, 0) HX.out
      have z5 : wr.cell? ⟨X, 5, none⟩ = some (.int .i64 b0) := cell_of_row wr (X) 5 _ _ (0, 0) HX.out
      have z6 : wr.cell? ⟨X, 6, none⟩ = some (.int .i64 b1) := cell_of_row wr (X) 6 _ _ (0, 0) HX.out
      have z7 : wr.cell? ⟨X, 7, none⟩ = some (.int .i64 b2) := cell_of_row wr (X) 7 _ _ (0, 0) HX.out
      have z8 : wr.cell? ⟨X, 8, none⟩ = some (.int .i64 ci) := cell_of_row wr (X) 8 _ _ (0, 0) HX.out
      have z9 : wr.cell? ⟨X, 9, none⟩ = some (.int .i64 c0) := cell_of_row wr (X) 9 _ _ (0, 0) HX.out
      have z10 : wr.cell? ⟨X, 10, none⟩ = some (.int .i64 c1) := cell_of_row wr (X) 10 _ _ (0, 0) HX.out
      have z11 : wr.cell? ⟨X, 11, none⟩ = some (.int .i64 c2) := cell_of_row wr (X) 11 _ _ (0, 0) HX.out
      have HX2 := Lib.hid (show CellsAt wr (X) 0 [.int .i64 ai, .int .i64 a0, .int .i64 a1, .int .i64 a2, .int .i64 bi, .int .i64 b0, .int .i64 b1, .int .i64 b2, .int .i64 ci, .int .i64 c0, .int .i64 c1, .int .i64 c2] from fun j u hu => by rw [Nat.zero_add, cell_of_row wr (X) j _ _ (0, 0) HX.out, ← hu]; simp [ordC])
      have hab := better_any ai a0 a1 a2 bi b0 b1 b2
      have hba := better_any bi b0 b1 b2 ai a0 a1 a2
      have hbc := better_any bi b0 b1 b2 ci c0 c1 c2
      have hac := better_any ai a0 a1 a2 ci c0 c1 c2
      have heq := slot_eql ai a0 a1 a2 bi b0 b1 b2
      have hne := slot_neq ai a0 a1 a2 bi b0 b1 b2
      have hgd : Try.prog.eqGuardType Try.prog.depth 33 = false := by kernel_rfl
      by_cases he : (⟨ai, a0, a1, a2⟩ : Sl) = ⟨bi, b0, b1, b2⟩
      · rw [slSame_iff.2 he] at heq hne
        rw [he, slBet_irrefl] at hab
        rw [← he, slBet_irrefl] at hba
        have HAB := Lib.hid hab
        have HBA := Lib.hid hba
        clear hab hba hbc hac he
        go_wp2_with fail
        refine (HAB.out _).mono ?_
        rintro e w5 ⟨rfl, b⟩
        have B5 := Lib.hid (below2Z HW.out b)
        have X5 := Lib.hid (HX2.out.later b)
        clear b z0 z1 z2 z3 z4 z5 z6 z7 z8 z9 z10 z11
        have z0 := X5.out 0 _ rfl
        have z1 := X5.out 1 _ rfl
        have z2 := X5.out 2 _ rfl
        have z3 := X5.out 3 _ rfl
        have z4 := X5.out 4 _ rfl
        have z5 := X5.out 5 _ rfl
        have z6 := X5.out 6 _ rfl
        have z7 := X5.out 7 _ rfl
        have z8 := X5.out 8 _ rfl
        have z9 := X5.out 9 _ rfl
        have z10 := X5.out 10 _ rfl
        have z11 := X5.out 11 _ rfl
        simp only [Nat.zero_add] at z0 z1 z2 z3 z4 z5 z6 z7 z8 z9 z10 z11
        go_wp2_with fail
        refine (HBA.out _).mono ?_
        rintro e w6 ⟨rfl, b⟩
        have B6 := Lib.hid (below2Z B5.out b)
        have X6 := Lib.hid (X5.out.later b)
        clear b z0 z1 z2 z3 z4 z5 z6 z7 z8 z9 z10 z11
        have z0 := X6.out 0 _ rfl
        have z1 := X6.out 1 _ rfl
        have z2 := X6.out 2 _ rfl
        have z3 := X6.out 3 _ rfl
        have z4 := X6.out 4 _ rfl
        have z5 := X6.out 5 _ rfl
        have z6 := X6.out 6 _ rfl
        have z7 := X6.out 7 _ rfl
        have z8 := X6.out 8 _ rfl
        have z9 := X6.out 9 _ rfl
        have z10 := X6.out 10 _ rfl
        have z11 := X6.out 11 _ rfl
        simp only [Nat.zero_add] at z0 z1 z2 z3 z4 z5 z6 z7 z8 z9 z10 z11
        go_wp2_with fail
        refine (live10 _).mono ?_
        rintro e w9 ⟨rfl, b⟩
        have B9 := Lib.hid (below2Z B6.out b)
        clear b z0 z1 z2 z3 z4 z5 z6 z7 z8 z9 z10 z11
        go_wp2_with fail
        go_ret
        exact ⟨rfl, B9.out⟩

      · rw [slSame_no he] at heq hne
        have htri := slBet_tri he
        cases h1 : slBet ⟨ai, a0, a1, a2⟩ ⟨bi, b0, b1, b2⟩ with
        | false =>
          rw [h1] at hab htri
          have h2 : slBet ⟨bi, b0, b1, b2⟩ ⟨ai, a0, a1, a2⟩ = true := by simpa using htri.symm
          rw [h2] at hba
          have HAB := Lib.hid hab
          have HBA := Lib.hid hba
          clear hab hba hbc hac he htri h1 h2
          go_wp2_with fail
          refine (HAB.out _).mono ?_
          rintro e w5 ⟨rfl, b⟩
          have B5 := Lib.hid (below2Z HW.out b)
          have X5 := Lib.hid (HX2.out.later b)
          clear b z0 z1 z2 z3 z4 z5 z6 z7 z8 z9 z10 z11
          have z0 := X5.out 0 _ rfl
          have z1 := X5.out 1 _ rfl
          have z2 := X5.out 2 _ rfl
          have z3 := X5.out 3 _ rfl
          have z4 := X5.out 4 _ rfl
          have z5 := X5.out 5 _ rfl
          have z6 := X5.out 6 _ rfl
          have z7 := X5.out 7 _ rfl
          have z8 := X5.out 8 _ rfl
          have z9 := X5.out 9 _ rfl
          have z10 := X5.out 10 _ rfl
          have z11 := X5.out 11 _ rfl
          simp only [Nat.zero_add] at z0 z1 z2 z3 z4 z5 z6 z7 z8 z9 z10 z11
          go_wp2_with fail
          refine (HBA.out _).mono ?_
          rintro e w6 ⟨rfl, b⟩
          have B6 := Lib.hid (below2Z B5.out b)
          have X6 := Lib.hid (X5.out.later b)
          clear b z0 z1 z2 z3 z4 z5 z6 z7 z8 z9 z10 z11
          have z0 := X6.out 0 _ rfl
          have z1 := X6.out 1 _ rfl
          have z2 := X6.out 2 _ rfl
          have z3 := X6.out 3 _ rfl
          have z4 := X6.out 4 _ rfl
          have z5 := X6.out 5 _ rfl
          have z6 := X6.out 6 _ rfl
          have z7 := X6.out 7 _ rfl
          have z8 := X6.out 8 _ rfl
          have z9 := X6.out 9 _ rfl
          have z10 := X6.out 10 _ rfl
          have z11 := X6.out 11 _ rfl
          simp only [Nat.zero_add] at z0 z1 z2 z3 z4 z5 z6 z7 z8 z9 z10 z11
          go_wp2_with fail
          refine (live10 _).mono ?_
          rintro e w9 ⟨rfl, b⟩
          have B9 := Lib.hid (below2Z B6.out b)
          clear b z0 z1 z2 z3 z4 z5 z6 z7 z8 z9 z10 z11
          go_wp2_with fail
          go_ret
          exact ⟨rfl, B9.out⟩

        | true =>
          rw [h1] at hab htri
          have h2 : slBet ⟨bi, b0, b1, b2⟩ ⟨ai, a0, a1, a2⟩ = false := by simpa using htri.symm
          rw [h2] at hba
          cases h3 : slBet ⟨bi, b0, b1, b2⟩ ⟨ci, c0, c1, c2⟩ with
          | false =>
            rw [h3] at hbc
            have HAB := Lib.hid hab
            have HBA := Lib.hid hba
            have HBC := Lib.hid hbc
            clear hab hba hbc hac he htri h1 h2 h3
            go_wp2_with fail
            refine (HAB.out _).mono ?_
            rintro e w5 ⟨rfl, b⟩
            have B5 := Lib.hid (below2Z HW.out b)
            have X5 := Lib.hid (HX2.out.later b)
            clear b z0 z1 z2 z3 z4 z5 z6 z7 z8 z9 z10 z11
            have z0 := X5.out 0 _ rfl
            have z1 := X5.out 1 _ rfl
            have z2 := X5.out 2 _ rfl
            have z3 := X5.out 3 _ rfl
            have z4 := X5.out 4 _ rfl
            have z5 := X5.out 5 _ rfl
            have z6 := X5.out 6 _ rfl
            have z7 := X5.out 7 _ rfl
            have z8 := X5.out 8 _ rfl
            have z9 := X5.out 9 _ rfl
            have z10 := X5.out 10 _ rfl
            have z11 := X5.out 11 _ rfl
            simp only [Nat.zero_add] at z0 z1 z2 z3 z4 z5 z6 z7 z8 z9 z10 z11
            go_wp2_with fail
            refine (HBA.out _).mono ?_
            rintro e w6 ⟨rfl, b⟩
            have B6 := Lib.hid (below2Z B5.out b)
            have X6 := Lib.hid (X5.out.later b)
            clear b z0 z1 z2 z3 z4 z5 z6 z7 z8 z9 z10 z11
            have z0 := X6.out 0 _ rfl
            have z1 := X6.out 1 _ rfl
            have z2 := X6.out 2 _ rfl
            have z3 := X6.out 3 _ rfl
            have z4 := X6.out 4 _ rfl
            have z5 := X6.out 5 _ rfl
            have z6 := X6.out 6 _ rfl
            have z7 := X6.out 7 _ rfl
            have z8 := X6.out 8 _ rfl
            have z9 := X6.out 9 _ rfl
            have z10 := X6.out 10 _ rfl
            have z11 := X6.out 11 _ rfl
            simp only [Nat.zero_add] at z0 z1 z2 z3 z4 z5 z6 z7 z8 z9 z10 z11
            go_wp2_with fail
            refine (HBC.out _).mono ?_
            rintro e w7 ⟨rfl, b⟩
            have B7 := Lib.hid (below2Z B6.out b)
            have X7 := Lib.hid (X6.out.later b)
            clear b z0 z1 z2 z3 z4 z5 z6 z7 z8 z9 z10 z11
            have z0 := X7.out 0 _ rfl
            have z1 := X7.out 1 _ rfl
            have z2 := X7.out 2 _ rfl
            have z3 := X7.out 3 _ rfl
            have z4 := X7.out 4 _ rfl
            have z5 := X7.out 5 _ rfl
            have z6 := X7.out 6 _ rfl
            have z7 := X7.out 7 _ rfl
            have z8 := X7.out 8 _ rfl
            have z9 := X7.out 9 _ rfl
            have z10 := X7.out 10 _ rfl
            have z11 := X7.out 11 _ rfl
            simp only [Nat.zero_add] at z0 z1 z2 z3 z4 z5 z6 z7 z8 z9 z10 z11
            go_wp2_with fail
            refine (live10 _).mono ?_
            rintro e w9 ⟨rfl, b⟩
            have B9 := Lib.hid (below2Z B7.out b)
            clear b z0 z1 z2 z3 z4 z5 z6 z7 z8 z9 z10 z11
            go_wp2_with fail
            go_ret
            exact ⟨rfl, B9.out⟩

          | true =>
            rw [h3] at hbc
            rw [slBet_trans h1 h3] at hac
            have HAB := Lib.hid hab
            have HBA := Lib.hid hba
            have HBC := Lib.hid hbc
            have HAC := Lib.hid hac
            clear hab hba hbc hac he htri h1 h2 h3
            go_wp2_with fail
            refine (HAB.out _).mono ?_
            rintro e w5 ⟨rfl, b⟩
            have B5 := Lib.hid (below2Z HW.out b)
            have X5 := Lib.hid (HX2.out.later b)
            clear b z0 z1 z2 z3 z4 z5 z6 z7 z8 z9 z10 z11
            have z0 := X5.out 0 _ rfl
            have z1 := X5.out 1 _ rfl
            have z2 := X5.out 2 _ rfl
            have z3 := X5.out 3 _ rfl
            have z4 := X5.out 4 _ rfl
            have z5 := X5.out 5 _ rfl
            have z6 := X5.out 6 _ rfl
            have z7 := X5.out 7 _ rfl
            have z8 := X5.out 8 _ rfl
            have z9 := X5.out 9 _ rfl
            have z10 := X5.out 10 _ rfl
            have z11 := X5.out 11 _ rfl
            simp only [Nat.zero_add] at z0 z1 z2 z3 z4 z5 z6 z7 z8 z9 z10 z11
            go_wp2_with fail
            refine (HBA.out _).mono ?_
            rintro e w6 ⟨rfl, b⟩
            have B6 := Lib.hid (below2Z B5.out b)
            have X6 := Lib.hid (X5.out.later b)
            clear b z0 z1 z2 z3 z4 z5 z6 z7 z8 z9 z10 z11
            have z0 := X6.out 0 _ rfl
            have z1 := X6.out 1 _ rfl
            have z2 := X6.out 2 _ rfl
            have z3 := X6.out 3 _ rfl
            have z4 := X6.out 4 _ rfl
            have z5 := X6.out 5 _ rfl
            have z6 := X6.out 6 _ rfl
            have z7 := X6.out 7 _ rfl
            have z8 := X6.out 8 _ rfl
            have z9 := X6.out 9 _ rfl
            have z10 := X6.out 10 _ rfl
            have z11 := X6.out 11 _ rfl
            simp only [Nat.zero_add] at z0 z1 z2 z3 z4 z5 z6 z7 z8 z9 z10 z11
            go_wp2_with fail
            refine (HBC.out _).mono ?_
            rintro e w7 ⟨rfl, b⟩
            have B7 := Lib.hid (below2Z B6.out b)
            have X7 := Lib.hid (X6.out.later b)
            clear b z0 z1 z2 z3 z4 z5 z6 z7 z8 z9 z10 z11
            have z0 := X7.out 0 _ rfl
            have z1 := X7.out 1 _ rfl
            have z2 := X7.out 2 _ rfl
            have z3 := X7.out 3 _ rfl
            have z4 := X7.out 4 _ rfl
            have z5 := X7.out 5 _ rfl
            have z6 := X7.out 6 _ rfl
            have z7 := X7.out 7 _ rfl
            have z8 := X7.out 8 _ rfl
            have z9 := X7.out 9 _ rfl
            have z10 := X7.out 10 _ rfl
            have z11 := X7.out 11 _ rfl
            simp only [Nat.zero_add] at z0 z1 z2 z3 z4 z5 z6 z7 z8 z9 z10 z11
            go_wp2_with fail
            refine (HAC.out _).mono ?_
            rintro e w8 ⟨rfl, b⟩
            have B8 := Lib.hid (below2Z B7.out b)
            have X8 := Lib.hid (X7.out.later b)
            clear b z0 z1 z2 z3 z4 z5 z6 z7 z8 z9 z10 z11
            have z0 := X8.out 0 _ rfl
            have z1 := X8.out 1 _ rfl
            have z2 := X8.out 2 _ rfl
            have z3 := X8.out 3 _ rfl
            have z4 := X8.out 4 _ rfl
            have z5 := X8.out 5 _ rfl
            have z6 := X8.out 6 _ rfl
            have z7 := X8.out 7 _ rfl
            have z8 := X8.out 8 _ rfl
            have z9 := X8.out 9 _ rfl
            have z10 := X8.out 10 _ rfl
            have z11 := X8.out 11 _ rfl
            simp only [Nat.zero_add] at z0 z1 z2 z3 z4 z5 z6 z7 z8 z9 z10 z11
            go_wp2_with fail
            refine (live10 _).mono ?_
            rintro e w9 ⟨rfl, b⟩
            have B9 := Lib.hid (below2Z B8.out b)
            clear b z0 z1 z2 z3 z4 z5 z6 z7 z8 z9 z10 z11
            go_wp2_with fail
            go_ret
            exact ⟨rfl, B9.out⟩

end Go.Proofs.Ytfnlmckcedembab
