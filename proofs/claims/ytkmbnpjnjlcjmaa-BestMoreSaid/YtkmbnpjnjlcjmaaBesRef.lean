/-
  LAYER 11, THE DOCUMENT's: the slots, and the best one; and of no session at all.
-/
import Derived.Test.YtkmbnpjnjlcjmaaBesBest
import Derived.Test.YtkmbnpjnjlcjmaaHeaRef
namespace Go.Proofs.Ytkmbnpjnjlcjmaa
open Go.RowKit

theorem bst_next {l : List Ses} {k : Nat} (h : 1 ≤ k) : bst l k = if sbet (sat l k) (bst l (k - 1)) = true then sat l k else bst l (k - 1) := by
  obtain ⟨j, rfl⟩ : ∃ j, k = j + 1 := ⟨k - 1, by omega⟩
  rfl

set_option maxHeartbeats 800000 in
set_option maxRecDepth 100000 in
theorem rbslot_any (k st : List UInt8) (id a b c : Int) (w : World) :
    Calls Try.prog 122 #[.agg #[.string ⟨k.toArray⟩, .int .i64 id, .int .i64 a, .int .i64 b, .int .i64 c, .string ⟨st.toArray⟩]] w fun e w' => e = .returned (.agg #[.int .i64 id, .int .i64 b, .int .i64 c, .int .i64 0]) ∧ Below w.heap.size w w' := by
  go_enter Try.func122, Try.ntmps122
  go_wp2_with fail
  refine bodyPost_ret (v := .agg #[.int .i64 id, .int .i64 b, .int .i64 c, .int .i64 0]) (by simp [results, Try.results122, go_sem]) rfl ⟨rfl, ?_⟩
  repeat (first | exact Below.refl _ _ | refine Below.setCell ?_ (by first | (simp; done) | (simp; omega)) _ | refine Below.alloc ?_ (by first | (simp; done) | (simp; omega)) _)


set_option maxRecDepth 100000 in
theorem best_no {w : World} {v : Value} (hv : Sess w v []) :
    Calls Try.prog 64 #[v] w fun e w' => e = .returned (.tuple #[.agg #[.string ⟨#[]⟩, .int .i64 0, .int .i64 0, .int .i64 0, .int .i64 0, .string ⟨#[]⟩], .bool false]) ∧ Below w.heap.size w w' := by
  obtain ⟨ao, cap, rfl, hm⟩ := hv.open'
  clear hv hm
  simp only [List.length_nil]
  go_enter Try.func64, Try.ntmps64
  go_wp2_with fail
  refine bodyPost_ret (v := .tuple #[.agg #[.string ⟨#[]⟩, .int .i64 0, .int .i64 0, .int .i64 0, .int .i64 0, .string ⟨#[]⟩], .bool false]) (by simp [results, Try.results64, go_sem]) rfl ⟨rfl, ?_⟩
  repeat (first | exact Below.refl _ _ | refine Below.setCell ?_ (by first | (simp; done) | (simp; omega)) _ | refine Below.alloc ?_ (by first | (simp; done) | (simp; omega)) _)

set_option maxRecDepth 100000 in
theorem rbest_no {w : World} {v : Value} (hv : Sess w v []) :
    Calls Try.prog 102 #[v] w fun e w' => e = .returned (.tuple #[.agg #[.string ⟨#[]⟩, .int .i64 0, .int .i64 0, .int .i64 0, .int .i64 0, .string ⟨#[]⟩], .bool false]) ∧ Below w.heap.size w w' := by
  obtain ⟨ao, cap, rfl, hm⟩ := hv.open'
  clear hv hm
  simp only [List.length_nil]
  go_enter Try.func102, Try.ntmps102
  go_wp2_with fail
  refine bodyPost_ret (v := .tuple #[.agg #[.string ⟨#[]⟩, .int .i64 0, .int .i64 0, .int .i64 0, .int .i64 0, .string ⟨#[]⟩], .bool false]) (by simp [results, Try.results102, go_sem]) rfl ⟨rfl, ?_⟩
  repeat (first | exact Below.refl _ _ | refine Below.setCell ?_ (by first | (simp; done) | (simp; omega)) _ | refine Below.alloc ?_ (by first | (simp; done) | (simp; omega)) _)

set_option maxHeartbeats 3200000 in
set_option maxRecDepth 100000 in
theorem rbest_yes {w : World} {v : Value} {l : List Ses} (hv : Sess w v l) (h0 : 0 < l.length) {n st : List UInt8} {i a b c : Int} (hr : besOf l = ⟨n, i, ⟨a, b, c, st⟩⟩) :
    Calls Try.prog 102 #[v] w fun e w' => e = .returned (.tuple #[.agg #[.string ⟨n.toArray⟩, .int .i64 i, .int .i64 a, .int .i64 b, .int .i64 c, .string ⟨st.toArray⟩], .bool true]) ∧ Below w.heap.size w w' := by
  have hb1 := bl_newZ w (.cells #[.string ⟨#[]⟩, .int .i64 0, .int .i64 0, .int .i64 0, .int .i64 0, .string ⟨#[]⟩] 34)
  obtain ⟨ao, cap, rfl, hm⟩ := hv.open'
  obtain ⟨bk, off, rfl, hc0⟩ := hv.row hb1 0 h0
  obtain ⟨⟨kn, id, ⟨sh, pr, si, sst⟩⟩, hz⟩ : ∃ s, sat l 0 = s := ⟨_, rfl⟩
  rw [show l.getD 0 Ses.zero = sat l 0 from rfl, hz] at hc0
  obtain ⟨s0, s1, s2, s3, s4, s5⟩ := cells6 hc0
  simp only [Nat.zero_mul, Nat.add_zero] at s0 s1 s2 s3 s4 s5
  have t0 : ((l.length : Int) == 0) = false := by rw [beq_eq_false_iff_ne]; omega
  have t1 : (0 : Int) < (l.length : Int) := by omega
  have HV := Lib.hid hv
  have HR := Lib.hid hr
  obtain ⟨W, hW⟩ : ∃ W, W = (w.alloc (.cells #[.string ⟨#[]⟩, .int .i64 0, .int .i64 0, .int .i64 0, .int .i64 0, .string ⟨#[]⟩] 34)).alloc (.cells #[.string ⟨kn.toArray⟩, .int .i64 id, .int .i64 sh, .int .i64 pr, .int .i64 si, .string ⟨sst.toArray⟩] 34) := ⟨_, rfl⟩
  have hW2 : Below w.heap.size w W := by rw [hW]; exact ((Below.refl _ _).alloc (Nat.le_refl _) _).alloc (by simp) _
  have HW := Lib.hid hW2
  have hsz : W.heap.size = w.heap.size + 2 := by rw [hW]; simp
  have X2 : Hid (W.heap[w.heap.size + 1]? = some (.cells (sesVals (bst l (1 - 1))).toArray 34 (0, 0))) := by
    show _ = _
    rw [show bst l (1 - 1) = ⟨kn, id, ⟨sh, pr, si, sst⟩⟩ from hz, hW]
    have := heap_alloc_new (w.alloc (.cells #[.string ⟨#[]⟩, .int .i64 0, .int .i64 0, .int .i64 0, .int .i64 0, .string ⟨#[]⟩] 34)) (.cells #[.string ⟨kn.toArray⟩, .int .i64 id, .int .i64 sh, .int .i64 pr, .int .i64 si, .string ⟨sst.toArray⟩] 34)
    rwa [World.size_alloc] at this
  have R2 : Hid (W.heap[w.heap.size]? = some (.cells #[.string ⟨#[]⟩, .int .i64 0, .int .i64 0, .int .i64 0, .int .i64 0, .string ⟨#[]⟩] 34 (0, 0))) := by
    show _ = _
    rw [hW]
    exact (heap_alloc_old _ _ (by simp)).trans (heap_alloc_new w _)
  clear hv hb1 hW2 hz hc0 hr
  go_enter Try.func102, Try.ntmps102
  go_wp2_with fail
  rw [← hW]
  clear hW s0 s1 s2 s3 s4 s5 t1
  generalize hB : w.heap.size + 1 = B at X2 ⊢
  go_loopw [5] (fun t wr => ∃ k : Nat, 1 ≤ k ∧ k ≤ l.length ∧ t = .int .i64 k ∧ Hid (wr.heap[B]? = some (.cells (sesVals (bst l (k - 1))).toArray 34 (0, 0))) ∧ Hid (Below B W wr)) (fun t _ => l.length - (intOf t).toNat)
  case atStart => exact ⟨1, Nat.le_refl _, h0, rfl, X2, Below.refl _ _⟩
  case round =>
    clear X2
    obtain ⟨k, hk1, hk, rfl, HX, HB⟩ := hrel
    have hBl := (Array.getElem?_eq_some_iff.1 HX.out).1
    by_cases hlt : k < l.length
    · obtain ⟨bd, od, ead, hc⟩ := HV.out.row (HW.out.trans (HB.out.mono (by omega))) k hlt
      rw [Option.some.injEq, Addr.mk.injEq] at ead
      obtain ⟨rfl, rfl, -⟩ := ead
      rw [show l.getD k Ses.zero = sat l k from rfl] at hc
      obtain ⟨⟨xn, xi, ⟨xa, xb, xc, xs⟩⟩, hx⟩ : ∃ s, sat l k = s := ⟨_, rfl⟩
      obtain ⟨⟨yn, yi, ⟨ya, yb, yc, ys⟩⟩, hy⟩ : ∃ s, bst l (k - 1) = s := ⟨_, rfl⟩
      rw [hx] at hc
      have hX := HX.out
      rw [hy] at hX
      have hnx := bst_next (l := l) hk1
      rw [hx, hy] at hnx
      obtain ⟨q, hq⟩ : ∃ q, sbet ⟨xn, xi, ⟨xa, xb, xc, xs⟩⟩ ⟨yn, yi, ⟨ya, yb, yc, ys⟩⟩ = q := ⟨_, rfl⟩
      rw [hq] at hnx
      have HQ : Hid (∀ w, Calls Try.prog 121 #[.agg #[.int .i64 xi, .int .i64 xb, .int .i64 xc, .int .i64 0], .agg #[.int .i64 yi, .int .i64 yb, .int .i64 yc, .int .i64 0]] w fun e w' => e = .returned (.bool q) ∧ Below w.heap.size w w') := Lib.hid (rbetter_eq xi xb xc 0 yi yb yc 0 hq)
      have HS1 : Hid (∀ w, Calls Try.prog 122 #[.agg #[.string ⟨xn.toArray⟩, .int .i64 xi, .int .i64 xa, .int .i64 xb, .int .i64 xc, .string ⟨xs.toArray⟩]] w fun e w' => e = .returned (.agg #[.int .i64 xi, .int .i64 xb, .int .i64 xc, .int .i64 0]) ∧ Below w.heap.size w w') := Lib.hid (rbslot_any xn xs xi xa xb xc)
      have HS2 : Hid (∀ w, Calls Try.prog 122 #[.agg #[.string ⟨yn.toArray⟩, .int .i64 yi, .int .i64 ya, .int .i64 yb, .int .i64 yc, .string ⟨ys.toArray⟩]] w fun e w' => e = .returned (.agg #[.int .i64 yi, .int .i64 yb, .int .i64 yc, .int .i64 0]) ∧ Below w.heap.size w w') := Lib.hid (rbslot_any yn ys yi ya yb yc)
      have HN := Lib.hid hnx
      have HC := Lib.hid hc
      have HZ : Hid (CellsAt wr B 0 (sesVals ⟨yn, yi, ⟨ya, yb, yc, ys⟩⟩)) := Lib.hid (fun j u hu => by rw [Nat.zero_add]; exact (cell_of_row wr B j _ _ (0, 0) hX).trans (by simpa using hu))
      obtain ⟨p0, p1, p2, p3, p4, p5⟩ := cells6_regrown hc
      obtain ⟨q0, q1, q2, q3, q4, q5⟩ := cells6_regrown HZ.out
      simp only [Nat.zero_add] at q0 q1 q2 q3 q4 q5
      try simp only at p0 p1 p2 p3 p4 p5
      try simp only at q0 q1 q2 q3 q4 q5
      have t1 : (0 : Int) ≤ (k : Int) := by omega
      have t2 : (k : Int) < (l.length : Int) := by omega
      clear hx hy hq hnx hc
      go_wp2_with fail
      refine wp_region_quiet_below (by kernel_rfl) (by kernel_rfl) ?_
      repeat (go_big_quiet_step (first | with_reducible exact rgB HS1.out _ _ _ | with_reducible exact rgB HS2.out _ _ _ | with_reducible exact rgB HQ.out _ _ _))
      refine wpQuiet_nil ?_
      intro w5 hw
      have b5 := regrownZ hw
      have HX5 := (b5.block B hBl).trans hX
      have HB5 := Lib.hid (HB.out.trans (b5.mono (Nat.le_of_lt hBl)))
      obtain ⟨s0, s1, s2, s3, s4, s5⟩ := cells6 (HC.out.later b5)
      try simp only at s0 s1 s2 s3 s4 s5
      have g0 := frozen_of_row w5 B 0 _ _ HX5
      have g1 := frozen_of_row w5 B 1 _ _ HX5
      have g2 := frozen_of_row w5 B 2 _ _ HX5
      have g3 := frozen_of_row w5 B 3 _ _ HX5
      have g4 := frozen_of_row w5 B 4 _ _ HX5
      have g5 := frozen_of_row w5 B 5 _ _ HX5
      have z0 : w5.cell? ⟨B, 0, none⟩ = some (.string ⟨yn.toArray⟩) := cell_of_row w5 B 0 _ _ (0, 0) HX5
      have z1 : w5.cell? ⟨B, 1, none⟩ = some (.int .i64 yi) := cell_of_row w5 B 1 _ _ (0, 0) HX5
      have z2 : w5.cell? ⟨B, 2, none⟩ = some (.int .i64 ya) := cell_of_row w5 B 2 _ _ (0, 0) HX5
      have z3 : w5.cell? ⟨B, 3, none⟩ = some (.int .i64 yb) := cell_of_row w5 B 3 _ _ (0, 0) HX5
      have z4 : w5.cell? ⟨B, 4, none⟩ = some (.int .i64 yc) := cell_of_row w5 B 4 _ _ (0, 0) HX5
      have z5 : w5.cell? ⟨B, 5, none⟩ = some (.string ⟨ys.toArray⟩) := cell_of_row w5 B 5 _ _ (0, 0) HX5
      clear hw b5 p0 p1 p2 p3 p4 p5 q0 q1 q2 q3 q4 q5 HX
      cases q with
      | true =>
        have r0 := heap_setCell_same w5 B 0 _ _ (.string ⟨xn.toArray⟩) HX5
        have r1 := heap_setCell_same _ B 1 _ _ (.int .i64 xi) r0
        have r2 := heap_setCell_same _ B 2 _ _ (.int .i64 xa) r1
        have r3 := heap_setCell_same _ B 3 _ _ (.int .i64 xb) r2
        have r4 := heap_setCell_same _ B 4 _ _ (.int .i64 xc) r3
        have r5 := heap_setCell_same _ B 5 _ _ (.string ⟨xs.toArray⟩) r4
        have HX2 : Hid (((((((w5.setCell ⟨B, 0, none⟩ (.string ⟨xn.toArray⟩)).setCell ⟨B, 1, none⟩ (.int .i64 xi)).setCell ⟨B, 2, none⟩ (.int .i64 xa)).setCell ⟨B, 3, none⟩ (.int .i64 xb)).setCell ⟨B, 4, none⟩ (.int .i64 xc)).setCell ⟨B, 5, none⟩ (.string ⟨xs.toArray⟩)).heap[B]? = some (.cells (sesVals (bst l (k + 1 - 1))).toArray 34 (0, 0))) := by
          show _ = _
          rw [show k + 1 - 1 = k from rfl, HN.out, r5]
          rfl
        have HB2 : Hid (Below B W ((((((w5.setCell ⟨B, 0, none⟩ (.string ⟨xn.toArray⟩)).setCell ⟨B, 1, none⟩ (.int .i64 xi)).setCell ⟨B, 2, none⟩ (.int .i64 xa)).setCell ⟨B, 3, none⟩ (.int .i64 xb)).setCell ⟨B, 4, none⟩ (.int .i64 xc)).setCell ⟨B, 5, none⟩ (.string ⟨xs.toArray⟩))) := ((((((HB5.out.setCell (Nat.le_refl _) _).setCell (Nat.le_refl _) _).setCell (Nat.le_refl _) _).setCell (Nat.le_refl _) _).setCell (Nat.le_refl _) _).setCell (Nat.le_refl _) _)
        clear r0 r1 r2 r3 r4 r5 HX5 hX
        go_wp2_with fail
        go_roundw
        case rel => exact ⟨k + 1, by omega, by omega, by go_num, HX2, HB2⟩
        case measure => simp [intOf]; omega
      | false =>
        have HX2 : Hid (w5.heap[B]? = some (.cells (sesVals (bst l (k + 1 - 1))).toArray 34 (0, 0))) := by
          show _ = _
          rw [show k + 1 - 1 = k from rfl, HN.out, HX5]
          rfl
        clear HX5 hX
        go_wp2_with fail
        go_roundw
        case rel => exact ⟨k + 1, by omega, by omega, by go_num, HX2, HB5⟩
        case measure => simp [intOf]; omega
    · obtain rfl : k = l.length := by omega
      have hX := HX.out
      rw [show bst l (l.length - 1) = besOf l from rfl, HR.out] at hX
      obtain ⟨z0, z1, z2, z3, z4, z5⟩ := cells6 (show CellsAt wr B 0 (sesVals ⟨n, i, ⟨a, b, c, st⟩⟩) from fun j u hu => by rw [Nat.zero_add]; exact (cell_of_row wr B j _ _ (0, 0) hX).trans (by simpa using hu))
      simp only [Nat.zero_add] at z0 z1 z2 z3 z4 z5
      try simp only at z0 z1 z2 z3 z4 z5
      have HWR := Lib.hid (HW.out.trans (HB.out.mono (by omega)))
      have hR := (HB.out.block w.heap.size (by omega)).trans R2.out
      have o0 : wr.cell? ⟨w.heap.size, 0, none⟩ = some (.string ⟨#[]⟩) := cell_of_row wr _ 0 _ _ (0, 0) hR
      have o1 : wr.cell? ⟨w.heap.size, 1, none⟩ = some (.int .i64 0) := cell_of_row wr _ 1 _ _ (0, 0) hR
      have o2 : wr.cell? ⟨w.heap.size, 2, none⟩ = some (.int .i64 0) := cell_of_row wr _ 2 _ _ (0, 0) hR
      have o3 : wr.cell? ⟨w.heap.size, 3, none⟩ = some (.int .i64 0) := cell_of_row wr _ 3 _ _ (0, 0) hR
      have o4 : wr.cell? ⟨w.heap.size, 4, none⟩ = some (.int .i64 0) := cell_of_row wr _ 4 _ _ (0, 0) hR
      have o5 : wr.cell? ⟨w.heap.size, 5, none⟩ = some (.string ⟨#[]⟩) := cell_of_row wr _ 5 _ _ (0, 0) hR
      have y0 : wr.frozen? ⟨w.heap.size, 0, none⟩ = false := frozen_of_row wr _ 0 _ _ hR
      have y1 : wr.frozen? ⟨w.heap.size, 1, none⟩ = false := frozen_of_row wr _ 1 _ _ hR
      have y2 : wr.frozen? ⟨w.heap.size, 2, none⟩ = false := frozen_of_row wr _ 2 _ _ hR
      have y3 : wr.frozen? ⟨w.heap.size, 3, none⟩ = false := frozen_of_row wr _ 3 _ _ hR
      have y4 : wr.frozen? ⟨w.heap.size, 4, none⟩ = false := frozen_of_row wr _ 4 _ _ hR
      have y5 : wr.frozen? ⟨w.heap.size, 5, none⟩ = false := frozen_of_row wr _ 5 _ _ hR
      clear hX hR HX HB
      go_wp2_with fail
      refine bodyPost_ret (v := .tuple #[.agg #[.string ⟨n.toArray⟩, .int .i64 i, .int .i64 a, .int .i64 b, .int .i64 c, .string ⟨st.toArray⟩], .bool true]) (by simp [results, Try.results102, go_sem, o0, o1, o2, o3, o4, o5]) rfl ⟨rfl, ?_⟩
      exact (((((HWR.out.setCell (Nat.le_refl _) _).setCell (Nat.le_refl _) _).setCell (Nat.le_refl _) _).setCell (Nat.le_refl _) _).setCell (Nat.le_refl _) _).setCell (Nat.le_refl _) _


end Go.Proofs.Ytkmbnpjnjlcjmaa
