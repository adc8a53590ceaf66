/-
  LAYER 11, THE CODE's: the best one.
-/
import Derived.Test.YtkmbnpjnjlcjmaaBesCode
import Derived.Test.YtkmbnpjnjlcjmaaSeqS
namespace Go.Proofs.Ytkmbnpjnjlcjmaa
open Go.RowKit

/-- Numbers that an int holds. -/
structure ValFit (v : Val) : Prop where
  sh : (Lit.int .i64 v.sh).wf = true
  pr : (Lit.int .i64 v.pr).wf = true
  si : (Lit.int .i64 v.si).wf = true

/-- Numbers that an int holds. -/
structure SesFit (s : Ses) : Prop where
  id : (Lit.int .i64 s.id).wf = true
  sh : (Lit.int .i64 s.v.sh).wf = true
  pr : (Lit.int .i64 s.v.pr).wf = true
  si : (Lit.int .i64 s.v.si).wf = true

theorem sat_mem {l : List Ses} {k : Nat} (h : k < l.length) : sat l k ∈ l := by
  rw [show sat l k = l[k] from sgetDB h]
  exact List.getElem_mem h

theorem bst_mem {l : List Ses} {k : Nat} (h : k < l.length) : bst l k ∈ l := by
  obtain ⟨j, h1, h2, -⟩ := bst_spec l k
  rw [h2]
  exact sat_mem (by omega)

set_option maxHeartbeats 3200000 in
set_option maxRecDepth 100000 in
theorem best_yes {w : World} {v : Value} {l : List Ses} (hv : Sess w v l) (hf : ∀ s ∈ l, SesFit s) (h0 : 0 < l.length) {n st : List UInt8} {i a b c : Int} (hr : besOf l = ⟨n, i, ⟨a, b, c, st⟩⟩) :
    Calls Try.prog 64 #[v] w fun e w' => e = .returned (.tuple #[.agg #[.string ⟨n.toArray⟩, .int .i64 i, .int .i64 a, .int .i64 b, .int .i64 c, .string ⟨st.toArray⟩], .bool true]) ∧ Below w.heap.size w w' := by
  have hb1 := bl_newZ w (.cells #[.string ⟨#[]⟩, .int .i64 0, .int .i64 0, .int .i64 0, .int .i64 0, .string ⟨#[]⟩] 34)
  obtain ⟨ao, cap, rfl, hm⟩ := hv.open'
  obtain ⟨bk, off, rfl, hc0⟩ := hv.row hb1 0 h0
  obtain ⟨⟨kn, id, ⟨sh, pr, si, sst⟩⟩, hz⟩ : ∃ s, sat l 0 = s := ⟨_, rfl⟩
  rw [show l.getD 0 Ses.zero = sat l 0 from rfl, hz] at hc0
  obtain ⟨s0, s1, s2, s3, s4, s5⟩ := cells6 hc0
  simp only [Nat.zero_mul, Nat.add_zero] at s0 s1 s2 s3 s4 s5
  have t0 : ((l.length : Int) == 0) = false := by rw [beq_eq_false_iff_ne]; omega
  have t1 : (0 : Int) < (l.length : Int) := by omega
  have HT := Lib.hid (hv.tail (by decide) 1 (by omega))
  obtain ⟨ad, had⟩ : ∃ ad, (if cap = 1 then (⟨bk, off, none⟩ : Addr) else (⟨bk, off, none⟩ : Addr).add (1 * 6)) = ad := ⟨_, rfl⟩
  have hsl := fun w => run_slice_from_S sesOK w ⟨bk, off, none⟩ l.length cap 1 1 rfl h0
  rw [had] at hsl HT
  have HF := Lib.hid hf
  have HR := Lib.hid hr
  obtain ⟨W, hW⟩ : ∃ W, W = (w.alloc (.cells #[.string ⟨#[]⟩, .int .i64 0, .int .i64 0, .int .i64 0, .int .i64 0, .string ⟨#[]⟩] 34)).alloc (.cells #[.string ⟨kn.toArray⟩, .int .i64 id, .int .i64 sh, .int .i64 pr, .int .i64 si, .string ⟨sst.toArray⟩] 34) := ⟨_, rfl⟩
  have hW2 : Below w.heap.size w W := by rw [hW]; exact ((Below.refl _ _).alloc (Nat.le_refl _) _).alloc (by simp) _
  have HW := Lib.hid hW2
  have hsz : W.heap.size = w.heap.size + 2 := by rw [hW]; simp
  have X2 : Hid (W.heap[w.heap.size + 1]? = some (.cells (sesVals (bst l 0)).toArray 34 (0, 0))) := by
    show _ = _
    rw [show bst l 0 = ⟨kn, id, ⟨sh, pr, si, sst⟩⟩ from hz, hW]
    have := heap_alloc_new (w.alloc (.cells #[.string ⟨#[]⟩, .int .i64 0, .int .i64 0, .int .i64 0, .int .i64 0, .string ⟨#[]⟩] 34)) (.cells #[.string ⟨kn.toArray⟩, .int .i64 id, .int .i64 sh, .int .i64 pr, .int .i64 si, .string ⟨sst.toArray⟩] 34)
    rwa [World.size_alloc] at this
  have R2 : Hid (W.heap[w.heap.size]? = some (.cells #[.string ⟨#[]⟩, .int .i64 0, .int .i64 0, .int .i64 0, .int .i64 0, .string ⟨#[]⟩] 34 (0, 0))) := by
    show _ = _
    rw [hW]
    exact (heap_alloc_old _ _ (by simp)).trans (heap_alloc_new w _)
  clear hv hb1 hW2 hz hc0 had hf hr
  go_enter Try.func64, Try.ntmps64
  go_wp2_with fail
  rw [← hW]
  clear hW s0 s1 s2 s3 s4 s5 t0 t1 hsl
  generalize hB : w.heap.size + 1 = B at X2 ⊢
  obtain ⟨m, hm2⟩ : ∃ m, m = l.length - 1 := ⟨_, rfl⟩
  rw [← hm2] at HT ⊢
  have hml : m < l.length := by omega
  have hdl := Lib.hid (show (l.drop 1).length = m by rw [List.length_drop, hm2])
  have HM := Lib.hid hm2
  clear hm2
  have hnk : Hid (∀ k, (l.drop 1).getD k Ses.zero = sat l (k + 1)) := fun k => by
    show _ = l.getD (k + 1) Ses.zero
    rw [List.getD_eq_getElem?_getD, List.getD_eq_getElem?_getD, List.getElem?_drop, Nat.add_comm]
  go_loopw [6, 17] (fun _ t wr => ∃ k : Nat, k ≤ m ∧ t = .int .i64 k ∧ Hid (wr.heap[B]? = some (.cells (sesVals (bst l k)).toArray 34 (0, 0))) ∧ Hid (Below B W wr)) (fun _ t _ => m - (intOf t).toNat)
  case atStart => exact ⟨0, by omega, rfl, X2, Below.refl _ _⟩
  case round =>
    clear X2
    obtain ⟨k, hk, rfl, HX, HB⟩ := hrel
    have hBl := (Array.getElem?_eq_some_iff.1 HX.out).1
    by_cases hlt : k < m
    · obtain ⟨bd, od, ead, hc⟩ := HT.out.row (HW.out.trans (HB.out.mono (by omega))) k (by rw [hdl.out]; exact hlt)
      obtain rfl := Option.some.inj ead
      rw [hnk.out] at hc
      have hmx := HF.out _ (sat_mem (l := l) (k := k + 1) (by omega))
      have hmy := HF.out _ (bst_mem (l := l) (k := k) (by omega))
      obtain ⟨⟨xn, xi, ⟨xa, xb, xc, xs⟩⟩, hx⟩ : ∃ s, sat l (k + 1) = s := ⟨_, rfl⟩
      obtain ⟨⟨yn, yi, ⟨ya, yb, yc, ys⟩⟩, hy⟩ : ∃ s, bst l k = s := ⟨_, rfl⟩
      rw [hx] at hc hmx
      rw [hy] at hmy
      have hX := HX.out
      rw [hy] at hX
      have hnx : bst l (k + 1) = if sbet (sat l (k + 1)) (bst l k) = true then sat l (k + 1) else bst l k := rfl
      rw [hx, hy] at hnx
      obtain ⟨q, hq⟩ : ∃ q, sbet ⟨xn, xi, ⟨xa, xb, xc, xs⟩⟩ ⟨yn, yi, ⟨ya, yb, yc, ys⟩⟩ = q := ⟨_, rfl⟩
      rw [hq] at hnx
      have HQ : Hid (∀ w, Calls Try.prog 89 #[.agg #[.string ⟨xn.toArray⟩, .int .i64 xi, .int .i64 xa, .int .i64 xb, .int .i64 xc, .string ⟨xs.toArray⟩], .agg #[.string ⟨yn.toArray⟩, .int .i64 yi, .int .i64 ya, .int .i64 yb, .int .i64 yc, .string ⟨ys.toArray⟩]] w fun e w' => e = .returned (.bool q) ∧ Below w.heap.size w w') :=
        Lib.hid (isBetter_eq xn xs xi xa xb xc yn ys yi ya yb yc hmx.pr hmx.si hmy.pr hmy.si hq)
      have HN := Lib.hid hnx
      obtain ⟨s0, s1, s2, s3, s4, s5⟩ := cells6 hc
      obtain ⟨z0, z1, z2, z3, z4, z5⟩ := cells6 (show CellsAt wr B 0 (sesVals ⟨yn, yi, ⟨ya, yb, yc, ys⟩⟩) from fun j u hu => by rw [Nat.zero_add]; exact (cell_of_row wr B j _ _ (0, 0) hX).trans (by simpa using hu))
      simp only [Nat.zero_add] at z0 z1 z2 z3 z4 z5
      try simp only at s0 s1 s2 s3 s4 s5
      try simp only at z0 z1 z2 z3 z4 z5
      have HSZ : wr.heap.size < (wr.alloc (.cells #[.string ⟨xn.toArray⟩, .int .i64 xi, .int .i64 xa, .int .i64 xb, .int .i64 xc, .string ⟨xs.toArray⟩] 34)).heap.size := by simp
      have CX := Lib.hid (cellsAt_made (w := wr) (cs := #[.string ⟨xn.toArray⟩, .int .i64 xi, .int .i64 xa, .int .i64 xb, .int .i64 xc, .string ⟨xs.toArray⟩]) (vs := sesVals ⟨xn, xi, ⟨xa, xb, xc, xs⟩⟩) rfl 34 rfl)
      clear hx hy hq hnx hc hmx hmy
      go_wp2_with fail
      refine (HQ.out _).mono ?_
      rintro e w5 ⟨rfl, b5⟩
      have b5' := below2Z (bl_newZ wr (.cells #[.string ⟨xn.toArray⟩, .int .i64 xi, .int .i64 xa, .int .i64 xb, .int .i64 xc, .string ⟨xs.toArray⟩] 34)) b5
      have HX5 := (b5'.block B hBl).trans hX
      have HB5 := Lib.hid (HB.out.trans (b5'.mono (Nat.le_of_lt hBl)))
      obtain ⟨y0, y1, y2, y3, y4, y5⟩ := cells6 (CX.out.later b5)
      simp only [Nat.zero_add] at y0 y1 y2 y3 y4 y5
      try simp only at y0 y1 y2 y3 y4 y5
      have g0 := frozen_of_row w5 B 0 _ _ HX5
      have g1 := frozen_of_row w5 B 1 _ _ HX5
      have g2 := frozen_of_row w5 B 2 _ _ HX5
      have g3 := frozen_of_row w5 B 3 _ _ HX5
      have g4 := frozen_of_row w5 B 4 _ _ HX5
      have g5 := frozen_of_row w5 B 5 _ _ HX5
      replace z0 : w5.cell? ⟨B, 0, none⟩ = some (.string ⟨yn.toArray⟩) := cell_of_row w5 B 0 _ _ (0, 0) HX5
      replace z1 : w5.cell? ⟨B, 1, none⟩ = some (.int .i64 yi) := cell_of_row w5 B 1 _ _ (0, 0) HX5
      replace z2 : w5.cell? ⟨B, 2, none⟩ = some (.int .i64 ya) := cell_of_row w5 B 2 _ _ (0, 0) HX5
      replace z3 : w5.cell? ⟨B, 3, none⟩ = some (.int .i64 yb) := cell_of_row w5 B 3 _ _ (0, 0) HX5
      replace z4 : w5.cell? ⟨B, 4, none⟩ = some (.int .i64 yc) := cell_of_row w5 B 4 _ _ (0, 0) HX5
      replace z5 : w5.cell? ⟨B, 5, none⟩ = some (.string ⟨ys.toArray⟩) := cell_of_row w5 B 5 _ _ (0, 0) HX5
      clear b5 b5' s0 s1 s2 s3 s4 s5 HX
      cases q with
      | true =>
        have r0 := heap_setCell_same w5 B 0 _ _ (.string ⟨xn.toArray⟩) HX5
        have r1 := heap_setCell_same _ B 1 _ _ (.int .i64 xi) r0
        have r2 := heap_setCell_same _ B 2 _ _ (.int .i64 xa) r1
        have r3 := heap_setCell_same _ B 3 _ _ (.int .i64 xb) r2
        have r4 := heap_setCell_same _ B 4 _ _ (.int .i64 xc) r3
        have r5 := heap_setCell_same _ B 5 _ _ (.string ⟨xs.toArray⟩) r4
        have HX2 : Hid (((((((w5.setCell ⟨B, 0, none⟩ (.string ⟨xn.toArray⟩)).setCell ⟨B, 1, none⟩ (.int .i64 xi)).setCell ⟨B, 2, none⟩ (.int .i64 xa)).setCell ⟨B, 3, none⟩ (.int .i64 xb)).setCell ⟨B, 4, none⟩ (.int .i64 xc)).setCell ⟨B, 5, none⟩ (.string ⟨xs.toArray⟩)).heap[B]? = some (.cells (sesVals (bst l (k + 1))).toArray 34 (0, 0))) := by
          show _ = _
          rw [HN.out, r5]
          rfl
        have HB2 : Hid (Below B W ((((((w5.setCell ⟨B, 0, none⟩ (.string ⟨xn.toArray⟩)).setCell ⟨B, 1, none⟩ (.int .i64 xi)).setCell ⟨B, 2, none⟩ (.int .i64 xa)).setCell ⟨B, 3, none⟩ (.int .i64 xb)).setCell ⟨B, 4, none⟩ (.int .i64 xc)).setCell ⟨B, 5, none⟩ (.string ⟨xs.toArray⟩))) := ((((((HB5.out.setCell (Nat.le_refl _) _).setCell (Nat.le_refl _) _).setCell (Nat.le_refl _) _).setCell (Nat.le_refl _) _).setCell (Nat.le_refl _) _).setCell (Nat.le_refl _) _)
        clear r0 r1 r2 r3 r4 r5 HX5 hX
        go_wp2_with fail
        go_roundw
        case rel => exact ⟨k + 1, by omega, by go_num, HX2, HB2⟩
        case measure => simp [intOf]; omega
      | false =>
        have HX2 : Hid (w5.heap[B]? = some (.cells (sesVals (bst l (k + 1))).toArray 34 (0, 0))) := by
          show _ = _
          rw [HN.out, HX5]
          rfl
        clear HX5 hX
        go_wp2_with fail
        go_roundw
        case rel => exact ⟨k + 1, by omega, by go_num, HX2, HB5⟩
        case measure => simp [intOf]; omega
    · obtain rfl : k = m := by omega
      have hX := HX.out
      rw [HM.out, show bst l (l.length - 1) = besOf l from rfl, HR.out] at hX
      obtain ⟨z0, z1, z2, z3, z4, z5⟩ := cells6 (show CellsAt wr B 0 (sesVals ⟨n, i, ⟨a, b, c, st⟩⟩) from fun j u hu => by rw [Nat.zero_add]; exact (cell_of_row wr B j _ _ (0, 0) hX).trans (by simpa using hu))
      simp only [Nat.zero_add] at z0 z1 z2 z3 z4 z5
      try simp only at z0 z1 z2 z3 z4 z5
      have HWR := Lib.hid (HW.out.trans (HB.out.mono (by omega)))
      have hR := (HB.out.block w.heap.size (by omega)).trans R2.out
      have o0 : wr.cell? ⟨w.heap.size, 0, none⟩ = some (.string ⟨#[]⟩) := cell_of_row wr _ 0 _ _ (0, 0) hR
      have o1 : wr.cell? ⟨w.heap.size, 1, none⟩ = some (.int .i64 0) := cell_of_row wr _ 1 _ _ (0, 0) hR
      have o2 : wr.cell? ⟨w.heap.size, 2, none⟩ = some (.int .i64 0) := cell_of_row wr _ 2 _ _ (0, 0) hR
      have o3 : wr.cell? ⟨w.heap.size, 3, none⟩ = some (.int .i64 0) := cell_of_row wr _ 3 _ _ (0, 0) hR
      have o4 : wr.cell? ⟨w.heap.size, 4, none⟩ = some (.int .i64 0) := cell_of_row wr _ 4 _ _ (0, 0) hR
      have o5 : wr.cell? ⟨w.heap.size, 5, none⟩ = some (.string ⟨#[]⟩) := cell_of_row wr _ 5 _ _ (0, 0) hR
      have y0 : wr.frozen? ⟨w.heap.size, 0, none⟩ = false := frozen_of_row wr _ 0 _ _ hR
      have y1 : wr.frozen? ⟨w.heap.size, 1, none⟩ = false := frozen_of_row wr _ 1 _ _ hR
      have y2 : wr.frozen? ⟨w.heap.size, 2, none⟩ = false := frozen_of_row wr _ 2 _ _ hR
      have y3 : wr.frozen? ⟨w.heap.size, 3, none⟩ = false := frozen_of_row wr _ 3 _ _ hR
      have y4 : wr.frozen? ⟨w.heap.size, 4, none⟩ = false := frozen_of_row wr _ 4 _ _ hR
      have y5 : wr.frozen? ⟨w.heap.size, 5, none⟩ = false := frozen_of_row wr _ 5 _ _ hR
      clear hX hR HX HB
      go_wp2_with fail
      refine bodyPost_ret (v := .tuple #[.agg #[.string ⟨n.toArray⟩, .int .i64 i, .int .i64 a, .int .i64 b, .int .i64 c, .string ⟨st.toArray⟩], .bool true]) (by simp [results, Try.results64, go_sem, o0, o1, o2, o3, o4, o5]) rfl ⟨rfl, ?_⟩
      exact (((((HWR.out.setCell (Nat.le_refl _) _).setCell (Nat.le_refl _) _).setCell (Nat.le_refl _) _).setCell (Nat.le_refl _) _).setCell (Nat.le_refl _) _).setCell (Nat.le_refl _) _

end Go.Proofs.Ytkmbnpjnjlcjmaa
