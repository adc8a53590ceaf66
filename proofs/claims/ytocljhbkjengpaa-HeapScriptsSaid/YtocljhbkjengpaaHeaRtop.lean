/-
  LAYER 10, THE DOCUMENT's: Top.
-/
import Derived.Test.YtocljhbkjengpaaHeaRef
namespace Go.Proofs.Ytocljhbkjengpaa
open Go.RowKit

/-- The best one of those at 0 to k. -/
def slBst (L : List Sl) : Nat → Sl
  | 0 => at0 L 0
  | k + 1 => if slBet (at0 L (k + 1)) (slBst L k) = true then at0 L (k + 1) else slBst L k

theorem slBst_next {L : List Sl} {k : Nat} (h : 1 ≤ k) : slBst L k = if slBet (at0 L k) (slBst L (k - 1)) = true then at0 L k else slBst L (k - 1) := by
  obtain ⟨j, rfl⟩ : ∃ j, k = j + 1 := ⟨k - 1, by omega⟩
  rfl

theorem slBst_spec (L : List Sl) : ∀ k, ∃ j, j ≤ k ∧ slBst L k = at0 L j ∧ ∀ i, i ≤ k → slBet (at0 L i) (at0 L j) = false := by
  intro k
  induction k with
  | zero =>
    refine ⟨0, Nat.le_refl _, rfl, fun i hi => ?_⟩
    obtain rfl : i = 0 := by omega
    exact slBet_irrefl _
  | succ k ih =>
    obtain ⟨j, h1, h2, h3⟩ := ih
    unfold slBst
    by_cases hb : slBet (at0 L (k + 1)) (slBst L k) = true
    · rw [if_pos hb]
      rw [h2] at hb
      refine ⟨k + 1, Nat.le_refl _, rfl, fun i hi => ?_⟩
      by_cases e : i = k + 1
      · subst e; exact slBet_irrefl _
      · exact slBet_lt_le hb (h3 i (by omega))
    · rw [if_neg hb]
      have hb' : slBet (at0 L (k + 1)) (slBst L k) = false := by simpa using hb
      rw [h2] at hb'
      refine ⟨j, by omega, h2, fun i hi => ?_⟩
      by_cases e : i = k + 1
      · subst e; exact hb'
      · exact h3 i (by omega)

theorem slBst_top {L : List Sl} (h0 : 0 < L.length) : IsTop L (slBst L (L.length - 1)) := by
  obtain ⟨j, h1, h2, h3⟩ := slBst_spec L (L.length - 1)
  rw [h2]
  have hj : j < L.length := by omega
  refine ⟨by rw [at0_get hj]; exact List.getElem_mem hj, fun x hx => ?_⟩
  obtain ⟨i, hi, rfl⟩ := List.getElem_of_mem hx
  have := h3 i (by omega)
  rwa [at0_get hi] at this

set_option maxHeartbeats 1600000 in
set_option maxRecDepth 100000 in
theorem rtop_yes {w : World} {base K : Nat} {v : Value} {L : List Sl} (h : KAt w base K v L) (h0 : 0 < L.length) (hl : L.length ≤ 1000) {i r0 r1 r2 : Int} (ht : slBst L (L.length - 1) = ⟨i, r0, r1, r2⟩) :
    Calls Try.prog 18 #[.pointer (some ⟨K, 0, none⟩)] w fun e w' => e = .returned (.tuple #[.agg #[.int .i64 i, .int .i64 r0, .int .i64 r1, .int .i64 r2], .bool true]) ∧ Below w.heap.size w w' := by
  have hb1 := bl_newZ w (.cells #[.int .i64 0, .int .i64 0, .int .i64 0, .int .i64 0] 37)
  have H1 := h.later hb1
  obtain ⟨g, cap, rfl, hcap, hlc⟩ := h.block h0
  obtain ⟨c0, f0⟩ := H1.cell
  obtain ⟨s0, s1, s2, s3⟩ := cells4 (H1.own.row rslOK (k := 0) h0)
  obtain ⟨⟨j, a0, a1, a2⟩, hz⟩ : ∃ s, at0 L 0 = s := ⟨_, rfl⟩
  rw [show L.getD 0 Sl.zero = at0 L 0 from rfl, hz] at s0 s1 s2 s3
  simp only [Nat.zero_mul, Nat.zero_add] at s0 s1 s2 s3
  have t0 : ((L.length : Int) == 0) = false := by rw [beq_eq_false_iff_ne]; omega
  have t1 : (0 : Int) < (L.length : Int) := by omega
  have HT := Lib.hid ht
  have HZ := Lib.hid hz
  obtain ⟨W, hW⟩ : ∃ W, W = (w.alloc (.cells #[.int .i64 0, .int .i64 0, .int .i64 0, .int .i64 0] 37)).alloc (.cells #[.int .i64 j, .int .i64 a0, .int .i64 a1, .int .i64 a2] 37) := ⟨_, rfl⟩
  have hW2 : Below w.heap.size w W := by rw [hW]; exact ((Below.refl _ _).alloc (Nat.le_refl _) _).alloc (by simp) _
  have HW := Lib.hid hW2
  have H2 := Lib.hid (h.later hW2)
  have hsz : W.heap.size = w.heap.size + 2 := by rw [hW]; simp
  have X2 : Hid (W.heap[w.heap.size + 1]? = some (.cells (slVals (slBst L (1 - 1))).toArray 37 (0, 0))) := by
    show _ = _
    rw [show slBst L (1 - 1) = ⟨j, a0, a1, a2⟩ from hz, hW]
    have := heap_alloc_new (w.alloc (.cells #[.int .i64 0, .int .i64 0, .int .i64 0, .int .i64 0] 37)) (.cells #[.int .i64 j, .int .i64 a0, .int .i64 a1, .int .i64 a2] 37)
    rwa [World.size_alloc] at this
  have R2 : Hid (W.heap[w.heap.size]? = some (.cells #[.int .i64 0, .int .i64 0, .int .i64 0, .int .i64 0] 37 (0, 0))) := by
    show _ = _
    rw [hW]
    exact (heap_alloc_old _ _ (by simp)).trans (heap_alloc_new w _)
  have hKw := h.lt
  have hgw := (h.own.gblock rfl).1
  clear h hb1 H1 hW2 ht hz
  go_enter Try.func18, Try.ntmps18
  go_wp2_with fail
  rw [← hW]
  clear hW c0 f0 s0 s1 s2 s3 t1
  generalize hB : w.heap.size + 1 = B at X2 ⊢
  have k1 : K < B := by omega
  have k2 : g < B := by omega
  go_loopw [5] (fun t wr => ∃ k : Nat, 1 ≤ k ∧ k ≤ L.length ∧ t = .int .i64 k ∧ Hid (wr.heap[B]? = some (.cells (slVals (slBst L (k - 1))).toArray 37 (0, 0))) ∧ Hid (Below B W wr)) (fun t _ => L.length - (intOf t).toNat)
  case atStart => exact ⟨1, Nat.le_refl _, h0, rfl, X2, Below.refl _ _⟩
  case round =>
    clear X2
    obtain ⟨k, hk1, hk, rfl, HX, HB⟩ := hrel
    have HK := Lib.hid (H2.out.blocks (HB.out.block _ (by omega) : wr.heap[K]? = W.heap[K]?) (fun g' n c e => HB.out.block _ (by cases e; omega)))
    obtain ⟨c0, f0⟩ := HK.out.cell
    by_cases hlt : k < L.length
    · obtain ⟨s0, s1, s2, s3⟩ := cells4 (HK.out.own.row rslOK hlt)
      obtain ⟨⟨x, x0, x1, x2⟩, hx⟩ : ∃ s, at0 L k = s := ⟨_, rfl⟩
      rw [show L.getD k Sl.zero = at0 L k from rfl, hx] at s0 s1 s2 s3
      obtain ⟨⟨y, y0, y1, y2⟩, hy⟩ : ∃ s, slBst L (k - 1) = s := ⟨_, rfl⟩
      have HY := Lib.hid hy
      simp only at s0 s1 s2 s3
      have hX := HX.out
      rw [hy] at hX
      have z0 : wr.cell? ⟨B, 0, none⟩ = some (.int .i64 y) := cell_of_row wr B 0 _ _ (0, 0) hX
      have z1 : wr.cell? ⟨B, 1, none⟩ = some (.int .i64 y0) := cell_of_row wr B 1 _ _ (0, 0) hX
      have z2 : wr.cell? ⟨B, 2, none⟩ = some (.int .i64 y1) := cell_of_row wr B 2 _ _ (0, 0) hX
      have z3 : wr.cell? ⟨B, 3, none⟩ = some (.int .i64 y2) := cell_of_row wr B 3 _ _ (0, 0) hX
      have p0 := cell_regrown s0
      have p1 := cell_regrown s1
      have p2 := cell_regrown s2
      have p3 := cell_regrown s3
      have q0 := cell_regrown z0
      have q1 := cell_regrown z1
      have q2 := cell_regrown z2
      have q3 := cell_regrown z3
      have q4 := cell_regrown c0
      have t1 : (0 : Int) ≤ (k : Int) := by omega
      have t2 : (k : Int) < (L.length : Int) := by omega
      have hnx := slBst_next (L := L) hk1
      rw [hy, hx] at hnx
      cases hbb : slBet ⟨x, x0, x1, x2⟩ ⟨y, y0, y1, y2⟩ with
      | true =>
        rw [if_pos hbb] at hnx
        have HN := Lib.hid hnx
        have HBB := Lib.hid hbb
        clear hnx hbb hx hy hX
        go_wp2_with fail
        refine wp_region_quiet_below (by kernel_rfl) (by kernel_rfl) ?_
        repeat (go_big_quiet_step (first | with_reducible exact rgB (rbetter_eq _ _ _ _ _ _ _ _ HBB.out) _ _ _))
        refine wpQuiet_nil ?_
        intro w5 hw
        have b := regrownZ hw
        have HB5 := Lib.hid (HB.out.trans (b.mono (Nat.le_of_lt (Array.getElem?_eq_some_iff.1 HX.out).1)))
        have HX5 := (b.block B (Array.getElem?_eq_some_iff.1 HX.out).1).trans HX.out
        replace c0 := cellLaterZ c0 b
        replace s0 := cellLaterZ s0 b
        replace s1 := cellLaterZ s1 b
        replace s2 := cellLaterZ s2 b
        replace s3 := cellLaterZ s3 b
        replace z0 := cellLaterZ z0 b
        replace z1 := cellLaterZ z1 b
        replace z2 := cellLaterZ z2 b
        replace z3 := cellLaterZ z3 b
        have g0 := frozen_of_row w5 B 0 _ _ HX5
        have g1 := frozen_of_row w5 B 1 _ _ HX5
        have g2 := frozen_of_row w5 B 2 _ _ HX5
        have g3 := frozen_of_row w5 B 3 _ _ HX5
        have r1 := heap_setCell_same w5 B 0 _ _ (.int .i64 x) HX5
        have r2 := heap_setCell_same _ B 1 _ _ (.int .i64 x0) r1
        have r3 := heap_setCell_same _ B 2 _ _ (.int .i64 x1) r2
        have r4 := heap_setCell_same _ B 3 _ _ (.int .i64 x2) r3
        have HX2 : Hid (((((w5.setCell ⟨B, 0, none⟩ (.int .i64 x)).setCell ⟨B, 1, none⟩ (.int .i64 x0)).setCell ⟨B, 2, none⟩ (.int .i64 x1)).setCell ⟨B, 3, none⟩ (.int .i64 x2)).heap[B]? = some (.cells (slVals (slBst L (k + 1 - 1))).toArray 37 (0, 0))) := by
          show _ = _
          rw [show k + 1 - 1 = k from rfl, HN.out, r4]
          rfl
        have HB2 : Hid (Below B W ((((w5.setCell ⟨B, 0, none⟩ (.int .i64 x)).setCell ⟨B, 1, none⟩ (.int .i64 x0)).setCell ⟨B, 2, none⟩ (.int .i64 x1)).setCell ⟨B, 3, none⟩ (.int .i64 x2))) := ((((HB5.out.setCell (Nat.le_refl _) _).setCell (Nat.le_refl _) _).setCell (Nat.le_refl _) _).setCell (Nat.le_refl _) _)
        clear hw b p0 p1 p2 p3 q0 q1 q2 q3 q4 r1 r2 r3 r4 HX5
        go_wp2_with fail
        go_roundw
        case rel => exact ⟨k + 1, by omega, by omega, by go_num, HX2, HB2⟩
        case measure => simp [intOf]; omega
      | false =>
        rw [if_neg (by rw [hbb]; simp)] at hnx
        have HN := Lib.hid hnx
        have HBB := Lib.hid hbb
        clear hnx hbb hx hy hX
        go_wp2_with fail
        refine wp_region_quiet_below (by kernel_rfl) (by kernel_rfl) ?_
        repeat (go_big_quiet_step (first | with_reducible exact rgB (rbetter_eq _ _ _ _ _ _ _ _ HBB.out) _ _ _))
        refine wpQuiet_nil ?_
        intro w5 hw
        have b := regrownZ hw
        have HB5 := Lib.hid (HB.out.trans (b.mono (Nat.le_of_lt (Array.getElem?_eq_some_iff.1 HX.out).1)))
        have HX5 : Hid (w5.heap[B]? = some (.cells (slVals (slBst L (k + 1 - 1))).toArray 37 (0, 0))) := by
          show _ = _
          rw [b.block B (Array.getElem?_eq_some_iff.1 HX.out).1, HX.out, show k + 1 - 1 = k from rfl, HN.out, HY.out]
        clear hw b p0 p1 p2 p3 q0 q1 q2 q3 q4
        go_wp2_with fail
        go_roundw
        case rel => exact ⟨k + 1, by omega, by omega, by go_num, HX5, HB5⟩
        case measure => simp [intOf]; omega
    · obtain rfl : k = L.length := by omega
      have hX := HX.out
      rw [HT.out] at hX
      have z0 : wr.cell? ⟨B, 0, none⟩ = some (.int .i64 i) := cell_of_row wr B 0 _ _ (0, 0) hX
      have z1 : wr.cell? ⟨B, 1, none⟩ = some (.int .i64 r0) := cell_of_row wr B 1 _ _ (0, 0) hX
      have z2 : wr.cell? ⟨B, 2, none⟩ = some (.int .i64 r1) := cell_of_row wr B 2 _ _ (0, 0) hX
      have z3 : wr.cell? ⟨B, 3, none⟩ = some (.int .i64 r2) := cell_of_row wr B 3 _ _ (0, 0) hX
      have HWR := Lib.hid (HW.out.trans (HB.out.mono (by omega)))
      have hR := (HB.out.block w.heap.size (by omega)).trans R2.out
      have o0 : wr.cell? ⟨w.heap.size, 0, none⟩ = some (.int .i64 0) := cell_of_row wr _ 0 _ _ (0, 0) hR
      have o1 : wr.cell? ⟨w.heap.size, 1, none⟩ = some (.int .i64 0) := cell_of_row wr _ 1 _ _ (0, 0) hR
      have o2 : wr.cell? ⟨w.heap.size, 2, none⟩ = some (.int .i64 0) := cell_of_row wr _ 2 _ _ (0, 0) hR
      have o3 : wr.cell? ⟨w.heap.size, 3, none⟩ = some (.int .i64 0) := cell_of_row wr _ 3 _ _ (0, 0) hR
      have y0 : wr.frozen? ⟨w.heap.size, 0, none⟩ = false := frozen_of_row wr _ 0 _ _ hR
      have y1 : wr.frozen? ⟨w.heap.size, 1, none⟩ = false := frozen_of_row wr _ 1 _ _ hR
      have y2 : wr.frozen? ⟨w.heap.size, 2, none⟩ = false := frozen_of_row wr _ 2 _ _ hR
      have y3 : wr.frozen? ⟨w.heap.size, 3, none⟩ = false := frozen_of_row wr _ 3 _ _ hR
      clear hX hR
      go_wp2_with fail
      refine bodyPost_ret (v := .tuple #[.agg #[.int .i64 i, .int .i64 r0, .int .i64 r1, .int .i64 r2], .bool true]) (by simp [results, Try.results18, go_sem, o0, o1, o2, o3]) rfl ⟨rfl, ?_⟩
      exact (((HWR.out.setCell (Nat.le_refl _) _).setCell (Nat.le_refl _) _).setCell (Nat.le_refl _) _).setCell (Nat.le_refl _) _

set_option maxRecDepth 100000 in
theorem rtop_no {w : World} {base K : Nat} {v : Value} (h : KAt w base K v []) :
    Calls Try.prog 18 #[.pointer (some ⟨K, 0, none⟩)] w fun e w' => e = .returned (.tuple #[.agg #[.int .i64 0, .int .i64 0, .int .i64 0, .int .i64 0], .bool false]) ∧ Below w.heap.size w w' := by
  have H1 := h.later (bl_newZ w (.cells #[.int .i64 0, .int .i64 0, .int .i64 0, .int .i64 0] 37))
  obtain ⟨c0, f0⟩ := H1.cell
  obtain ⟨a, cap, rfl⟩ := own_len h.own
  have HW := Lib.hid (bl_newZ w (.cells #[.int .i64 0, .int .i64 0, .int .i64 0, .int .i64 0] 37))
  simp only [List.length_nil] at c0
  clear h H1
  go_enter Try.func18, Try.ntmps18
  go_wp2_with fail
  refine bodyPost_ret (v := .tuple #[.agg #[.int .i64 0, .int .i64 0, .int .i64 0, .int .i64 0], .bool false]) (by simp [results, Try.results18, go_sem]) rfl ⟨rfl, ?_⟩
  repeat (first | exact Below.refl _ _ | exact HW.out | refine Below.setCell ?_ (by first | (simp; done) | (simp; omega)) _ | refine Below.alloc ?_ (by first | (simp; done) | (simp; omega)) _)

/-- The best slot of the code's heap and of the document's: one and the same. -/
theorem bst_isTop {L : List Sl} (h0 : 0 < L.length) {i r0 r1 r2 : Int} (ht : slBst L (L.length - 1) = ⟨i, r0, r1, r2⟩) : IsTop L ⟨i, r0, r1, r2⟩ := by
  rw [← ht]
  exact slBst_top h0

end Go.Proofs.Ytocljhbkjengpaa
