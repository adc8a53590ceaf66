/-
  LAYER 11: the presence of sessions, the code's and the document's; which of two is worth more, the document's.
-/
import Derived.Test.YtkmbnpjnjlcjmaaBesRef
import Derived.Test.YtkmbnpjnjlcjmaaHeaRput
namespace Go.Proofs.Ytkmbnpjnjlcjmaa
open Go.RowKit

set_option maxHeartbeats 3200000 in
set_option maxRecDepth 100000 in
theorem bvalue_yes {w : World} {v : Value} {l : List Ses} (hv : Sess w v l) (hf : ∀ s ∈ l, SesFit s) (h0 : 0 < l.length) {st : List UInt8} {a b c : Int} (hr : besV l = ⟨a, b, c, st⟩) :
    Calls Try.prog 32 #[v] w fun e w' => e = .returned (.tuple #[.agg #[.int .i64 a, .int .i64 b, .int .i64 c, .string ⟨st.toArray⟩], .bool true]) ∧ Below w.heap.size w w' := by
  have hb1 := bl_newZ w (.cells #[.int .i64 0, .int .i64 0, .int .i64 0, .string ⟨#[]⟩] 32)
  obtain ⟨⟨n, id, ⟨sh, pr, si, sst⟩⟩, hz⟩ : ∃ s, besOf l = s := ⟨_, rfl⟩
  have HBe := Lib.hid (best_yes (hv.later hb1) hf h0 hz)
  have HV := Lib.hid hv
  obtain ⟨ao, cap, rfl, hm⟩ := hv.open'
  have HR : Hid (besV l = ⟨a, b, c, st⟩) := hr
  have HZ := Lib.hid hz
  have hsz1 : (w.alloc (.cells #[.int .i64 0, .int .i64 0, .int .i64 0, .string ⟨#[]⟩] 32)).heap.size = w.heap.size + 1 := World.size_alloc _ _
  clear hv hf hz hr
  go_enter Try.func32, Try.ntmps32
  go_wp2_with fail
  refine HBe.out.mono ?_
  rintro e w2 ⟨rfl, b2⟩
  obtain ⟨W, hW⟩ : ∃ W, W = (w2.alloc (.cells #[.string ⟨n.toArray⟩, .int .i64 id, .int .i64 sh, .int .i64 pr, .int .i64 si, .string ⟨sst.toArray⟩] 34)).alloc (.cells #[.int .i64 sh, .int .i64 pr, .int .i64 si, .string ⟨sst.toArray⟩] 32) := ⟨_, rfl⟩
  have hb2 := below2Z hb1 b2
  have hbW : Below w2.heap.size w2 W := by rw [hW]; exact ((Below.refl _ _).alloc (Nat.le_refl _) _).alloc (by simp) _
  have HW := Lib.hid (below2Z hb2 hbW)
  have hs2 : w.heap.size + 1 ≤ w2.heap.size := by rw [← hsz1]; exact b2.size
  have R2 : Hid (W.heap[w.heap.size]? = some (.cells #[.int .i64 0, .int .i64 0, .int .i64 0, .string ⟨#[]⟩] 32 (0, 0))) := by
    show _ = _
    rw [hbW.block _ (by omega), b2.block _ (by omega)]
    exact heap_alloc_new w _
  have X2 : Hid (W.heap[w2.heap.size + 1]? = some (.cells #[.int .i64 (shTo l sh 0), .int .i64 pr, .int .i64 si, .string ⟨sst.toArray⟩] 32 (0, 0))) := by
    show _ = _
    rw [hW]
    have := heap_alloc_new (w2.alloc (.cells #[.string ⟨n.toArray⟩, .int .i64 id, .int .i64 sh, .int .i64 pr, .int .i64 si, .string ⟨sst.toArray⟩] 34)) (.cells #[.int .i64 sh, .int .i64 pr, .int .i64 si, .string ⟨sst.toArray⟩] 32)
    rwa [World.size_alloc] at this
  clear b2 hb2 hb1 hbW HBe
  go_wp2_with fail
  rw [← hW]
  clear hW
  generalize hB : w2.heap.size + 1 = B at X2 ⊢
  go_loopw [8, 21] (fun _ t wr => ∃ k : Nat, k ≤ l.length ∧ t = .int .i64 k ∧ Hid (wr.heap[B]? = some (.cells #[.int .i64 (shTo l sh k), .int .i64 pr, .int .i64 si, .string ⟨sst.toArray⟩] 32 (0, 0))) ∧ Hid (Below B W wr)) (fun _ t _ => l.length - (intOf t).toNat)
  case atStart => exact ⟨0, by omega, rfl, X2, Below.refl _ _⟩
  case round =>
    clear X2
    obtain ⟨k, hk, rfl, HX, HB⟩ := hrel
    have hBl := (Array.getElem?_eq_some_iff.1 HX.out).1
    by_cases hlt : k < l.length
    · obtain ⟨bd, od, rfl, hc⟩ := HV.out.row (HW.out.trans (HB.out.mono (by omega))) k hlt
      rw [show l.getD k Ses.zero = sat l k from rfl] at hc
      have hnx : shTo l sh (k + 1) = if shTo l sh k < (sat l k).v.sh then (sat l k).v.sh else shTo l sh k := shTo_next l sh k
      obtain ⟨⟨xn, xi, ⟨xa, xb, xc, xs⟩⟩, hx⟩ : ∃ s, sat l k = s := ⟨_, rfl⟩
      rw [hx] at hc hnx
      have hX := HX.out
      obtain ⟨y, hy⟩ : ∃ y, shTo l sh k = y := ⟨_, rfl⟩
      rw [hy] at hX hnx
      simp only at hnx
      have HN := Lib.hid hnx
      obtain ⟨s0, s1, s2, s3, s4, s5⟩ := cells6 hc
      try simp only at s0 s1 s2 s3 s4 s5
      have z0 : wr.cell? ⟨B, 0, none⟩ = some (.int .i64 y) := cell_of_row wr B 0 _ _ (0, 0) hX
      have g0 := frozen_of_row wr B 0 _ _ hX
      have HZ2 : Hid (((wr.setCell ⟨B, 0, none⟩ (.int .i64 (if y < xa then xa else y))).alloc (.cells #[.string ⟨xn.toArray⟩, .int .i64 xi, .int .i64 xa, .int .i64 xb, .int .i64 xc, .string ⟨xs.toArray⟩] 34)).heap[B]? = some (.cells #[.int .i64 (shTo l sh (k + 1)), .int .i64 pr, .int .i64 si, .string ⟨sst.toArray⟩] 32 (0, 0))) := by
        show _ = _
        rw [heap_alloc_old _ _ (by rw [World.size_setCell]; exact hBl), heap_setCell_same _ B 0 _ _ _ hX, HN.out]
        rfl
      have HB2 : Hid (Below B W ((wr.setCell ⟨B, 0, none⟩ (.int .i64 (if y < xa then xa else y))).alloc (.cells #[.string ⟨xn.toArray⟩, .int .i64 xi, .int .i64 xa, .int .i64 xb, .int .i64 xc, .string ⟨xs.toArray⟩] 34))) := (HB.out.setCell (Nat.le_refl _) _).alloc (by rw [World.size_setCell]; exact Nat.le_of_lt hBl) _
      clear hx hnx hc hy hX
      go_wp2_with fail
      go_roundw
      case rel => exact ⟨k + 1, by omega, by go_num, HZ2, HB2⟩
      case measure => simp [intOf]; omega
    · obtain rfl : k = l.length := by omega
      have hX := HX.out
      have hv2 : (⟨shTo l sh l.length, pr, si, sst⟩ : Val) = ⟨a, b, c, st⟩ := by
        rw [← HR.out]
        unfold besV
        rw [HZ.out]
      simp only [Val.mk.injEq] at hv2
      obtain ⟨e1, rfl, rfl, rfl⟩ := hv2
      rw [e1] at hX
      have z0 : wr.cell? ⟨B, 0, none⟩ = some (.int .i64 a) := cell_of_row wr B 0 _ _ (0, 0) hX
      have z1 : wr.cell? ⟨B, 1, none⟩ = some (.int .i64 pr) := cell_of_row wr B 1 _ _ (0, 0) hX
      have z2 : wr.cell? ⟨B, 2, none⟩ = some (.int .i64 si) := cell_of_row wr B 2 _ _ (0, 0) hX
      have z3 : wr.cell? ⟨B, 3, none⟩ = some (.string ⟨sst.toArray⟩) := cell_of_row wr B 3 _ _ (0, 0) hX
      have HWR := Lib.hid (HW.out.trans (HB.out.mono (by omega)))
      have hR := (HB.out.block w.heap.size (by omega)).trans R2.out
      have o0 : wr.cell? ⟨w.heap.size, 0, none⟩ = some (.int .i64 0) := cell_of_row wr _ 0 _ _ (0, 0) hR
      have o1 : wr.cell? ⟨w.heap.size, 1, none⟩ = some (.int .i64 0) := cell_of_row wr _ 1 _ _ (0, 0) hR
      have o2 : wr.cell? ⟨w.heap.size, 2, none⟩ = some (.int .i64 0) := cell_of_row wr _ 2 _ _ (0, 0) hR
      have o3 : wr.cell? ⟨w.heap.size, 3, none⟩ = some (.string ⟨#[]⟩) := cell_of_row wr _ 3 _ _ (0, 0) hR
      have y0 : wr.frozen? ⟨w.heap.size, 0, none⟩ = false := frozen_of_row wr _ 0 _ _ hR
      have y1 : wr.frozen? ⟨w.heap.size, 1, none⟩ = false := frozen_of_row wr _ 1 _ _ hR
      have y2 : wr.frozen? ⟨w.heap.size, 2, none⟩ = false := frozen_of_row wr _ 2 _ _ hR
      have y3 : wr.frozen? ⟨w.heap.size, 3, none⟩ = false := frozen_of_row wr _ 3 _ _ hR
      clear hX hR HX HB e1
      go_wp2_with fail
      refine bodyPost_ret (v := .tuple #[.agg #[.int .i64 a, .int .i64 pr, .int .i64 si, .string ⟨sst.toArray⟩], .bool true]) (by simp [results, Try.results32, go_sem, o0, o1, o2, o3]) rfl ⟨rfl, ?_⟩
      exact (((HWR.out.setCell (Nat.le_refl _) _).setCell (Nat.le_refl _) _).setCell (Nat.le_refl _) _).setCell (Nat.le_refl _) _

set_option maxHeartbeats 3200000 in
set_option maxRecDepth 100000 in
theorem rbvalue_yes {w : World} {v : Value} {l : List Ses} (hv : Sess w v l) (h0 : 0 < l.length) {st : List UInt8} {a b c : Int} (hr : besV l = ⟨a, b, c, st⟩) :
    Calls Try.prog 75 #[v] w fun e w' => e = .returned (.tuple #[.agg #[.int .i64 a, .int .i64 b, .int .i64 c, .string ⟨st.toArray⟩], .bool true]) ∧ Below w.heap.size w w' := by
  have hb1 := bl_newZ w (.cells #[.int .i64 0, .int .i64 0, .int .i64 0, .string ⟨#[]⟩] 32)
  obtain ⟨⟨n, id, ⟨sh, pr, si, sst⟩⟩, hz⟩ : ∃ s, besOf l = s := ⟨_, rfl⟩
  have HBe := Lib.hid (rbest_yes (hv.later hb1) h0 hz)
  have HV := Lib.hid hv
  obtain ⟨ao, cap, rfl, hm⟩ := hv.open'
  have HR : Hid (besV l = ⟨a, b, c, st⟩) := hr
  have HZ := Lib.hid hz
  have hsz1 : (w.alloc (.cells #[.int .i64 0, .int .i64 0, .int .i64 0, .string ⟨#[]⟩] 32)).heap.size = w.heap.size + 1 := World.size_alloc _ _
  clear hv hz hr
  go_enter Try.func75, Try.ntmps75
  go_wp2_with fail
  refine HBe.out.mono ?_
  rintro e w2 ⟨rfl, b2⟩
  obtain ⟨W, hW⟩ : ∃ W, W = (w2.alloc (.cells #[.string ⟨n.toArray⟩, .int .i64 id, .int .i64 sh, .int .i64 pr, .int .i64 si, .string ⟨sst.toArray⟩] 34)).alloc (.cells #[.int .i64 sh, .int .i64 pr, .int .i64 si, .string ⟨sst.toArray⟩] 32) := ⟨_, rfl⟩
  have hb2 := below2Z hb1 b2
  have hbW : Below w2.heap.size w2 W := by rw [hW]; exact ((Below.refl _ _).alloc (Nat.le_refl _) _).alloc (by simp) _
  have HW := Lib.hid (below2Z hb2 hbW)
  have hs2 : w.heap.size + 1 ≤ w2.heap.size := by rw [← hsz1]; exact b2.size
  have R2 : Hid (W.heap[w.heap.size]? = some (.cells #[.int .i64 0, .int .i64 0, .int .i64 0, .string ⟨#[]⟩] 32 (0, 0))) := by
    show _ = _
    rw [hbW.block _ (by omega), b2.block _ (by omega)]
    exact heap_alloc_new w _
  have X2 : Hid (W.heap[w2.heap.size + 1]? = some (.cells #[.int .i64 (shTo l sh 0), .int .i64 pr, .int .i64 si, .string ⟨sst.toArray⟩] 32 (0, 0))) := by
    show _ = _
    rw [hW]
    have := heap_alloc_new (w2.alloc (.cells #[.string ⟨n.toArray⟩, .int .i64 id, .int .i64 sh, .int .i64 pr, .int .i64 si, .string ⟨sst.toArray⟩] 34)) (.cells #[.int .i64 sh, .int .i64 pr, .int .i64 si, .string ⟨sst.toArray⟩] 32)
    rwa [World.size_alloc] at this
  clear b2 hb2 hb1 hbW HBe
  go_wp2_with fail
  rw [← hW]
  clear hW
  generalize hB : w2.heap.size + 1 = B at X2 ⊢
  go_loopw [7] (fun t wr => ∃ k : Nat, k ≤ l.length ∧ t = .int .i64 k ∧ Hid (wr.heap[B]? = some (.cells #[.int .i64 (shTo l sh k), .int .i64 pr, .int .i64 si, .string ⟨sst.toArray⟩] 32 (0, 0))) ∧ Hid (Below B W wr)) (fun t _ => l.length - (intOf t).toNat)
  case atStart => exact ⟨0, by omega, rfl, X2, Below.refl _ _⟩
  case round =>
    clear X2
    obtain ⟨k, hk, rfl, HX, HB⟩ := hrel
    have hBl := (Array.getElem?_eq_some_iff.1 HX.out).1
    by_cases hlt : k < l.length
    · obtain ⟨bd, od, rfl, hc⟩ := HV.out.row (HW.out.trans (HB.out.mono (by omega))) k hlt
      rw [show l.getD k Ses.zero = sat l k from rfl] at hc
      have hnx : shTo l sh (k + 1) = if shTo l sh k < (sat l k).v.sh then (sat l k).v.sh else shTo l sh k := shTo_next l sh k
      obtain ⟨⟨xn, xi, ⟨xa, xb, xc, xs⟩⟩, hx⟩ : ∃ s, sat l k = s := ⟨_, rfl⟩
      rw [hx] at hc hnx
      have hX := HX.out
      obtain ⟨y, hy⟩ : ∃ y, shTo l sh k = y := ⟨_, rfl⟩
      rw [hy] at hX hnx
      simp only at hnx
      have HN := Lib.hid hnx
      obtain ⟨s0, s1, s2, s3, s4, s5⟩ := cells6 hc
      try simp only at s0 s1 s2 s3 s4 s5
      have z0 : wr.cell? ⟨B, 0, none⟩ = some (.int .i64 y) := cell_of_row wr B 0 _ _ (0, 0) hX
      have g0 := frozen_of_row wr B 0 _ _ hX
      have HZ2 : Hid ((wr.setCell ⟨B, 0, none⟩ (.int .i64 (if y < xa then xa else y))).drew.heap[B]? = some (.cells #[.int .i64 (shTo l sh (k + 1)), .int .i64 pr, .int .i64 si, .string ⟨sst.toArray⟩] 32 (0, 0))) := by
        show _ = _
        show (wr.setCell ⟨B, 0, none⟩ (.int .i64 (if y < xa then xa else y))).heap[B]? = _
        rw [heap_setCell_same _ B 0 _ _ _ hX, HN.out]
        rfl
      have HB2 : Hid (Below B W (wr.setCell ⟨B, 0, none⟩ (.int .i64 (if y < xa then xa else y))).drew) := (HB.out.setCell (Nat.le_refl _) _).drew
      have t1 : (0 : Int) ≤ (k : Int) := by omega
      have t2 : (k : Int) < (l.length : Int) := by omega
      clear hx hnx hc hy hX
      go_wp2_with fail
      go_region
      all_goals
        go_wp2_with fail
        go_roundw
        case rel => exact ⟨k + 1, by omega, by go_num, HZ2, HB2⟩
        case measure => simp [intOf]; omega
    · obtain rfl : k = l.length := by omega
      have hX := HX.out
      have hv2 : (⟨shTo l sh l.length, pr, si, sst⟩ : Val) = ⟨a, b, c, st⟩ := by
        rw [← HR.out]
        unfold besV
        rw [HZ.out]
      simp only [Val.mk.injEq] at hv2
      obtain ⟨e1, rfl, rfl, rfl⟩ := hv2
      rw [e1] at hX
      have z0 : wr.cell? ⟨B, 0, none⟩ = some (.int .i64 a) := cell_of_row wr B 0 _ _ (0, 0) hX
      have z1 : wr.cell? ⟨B, 1, none⟩ = some (.int .i64 pr) := cell_of_row wr B 1 _ _ (0, 0) hX
      have z2 : wr.cell? ⟨B, 2, none⟩ = some (.int .i64 si) := cell_of_row wr B 2 _ _ (0, 0) hX
      have z3 : wr.cell? ⟨B, 3, none⟩ = some (.string ⟨sst.toArray⟩) := cell_of_row wr B 3 _ _ (0, 0) hX
      have HWR := Lib.hid (HW.out.trans (HB.out.mono (by omega)))
      have hR := (HB.out.block w.heap.size (by omega)).trans R2.out
      have o0 : wr.cell? ⟨w.heap.size, 0, none⟩ = some (.int .i64 0) := cell_of_row wr _ 0 _ _ (0, 0) hR
      have o1 : wr.cell? ⟨w.heap.size, 1, none⟩ = some (.int .i64 0) := cell_of_row wr _ 1 _ _ (0, 0) hR
      have o2 : wr.cell? ⟨w.heap.size, 2, none⟩ = some (.int .i64 0) := cell_of_row wr _ 2 _ _ (0, 0) hR
      have o3 : wr.cell? ⟨w.heap.size, 3, none⟩ = some (.string ⟨#[]⟩) := cell_of_row wr _ 3 _ _ (0, 0) hR
      have y0 : wr.frozen? ⟨w.heap.size, 0, none⟩ = false := frozen_of_row wr _ 0 _ _ hR
      have y1 : wr.frozen? ⟨w.heap.size, 1, none⟩ = false := frozen_of_row wr _ 1 _ _ hR
      have y2 : wr.frozen? ⟨w.heap.size, 2, none⟩ = false := frozen_of_row wr _ 2 _ _ hR
      have y3 : wr.frozen? ⟨w.heap.size, 3, none⟩ = false := frozen_of_row wr _ 3 _ _ hR
      clear hX hR HX HB e1
      go_wp2_with fail
      refine bodyPost_ret (v := .tuple #[.agg #[.int .i64 a, .int .i64 pr, .int .i64 si, .string ⟨sst.toArray⟩], .bool true]) (by simp [results, Try.results75, go_sem, o0, o1, o2, o3]) rfl ⟨rfl, ?_⟩
      exact (((HWR.out.setCell (Nat.le_refl _) _).setCell (Nat.le_refl _) _).setCell (Nat.le_refl _) _).setCell (Nat.le_refl _) _

set_option maxRecDepth 100000 in
theorem bvalue_no {w : World} {v : Value} (hv : Sess w v []) :
    Calls Try.prog 32 #[v] w fun e w' => e = .returned (.tuple #[.agg #[.int .i64 0, .int .i64 0, .int .i64 0, .string ⟨#[]⟩], .bool false]) ∧ Below w.heap.size w w' := by
  have hb1 := bl_newZ w (.cells #[.int .i64 0, .int .i64 0, .int .i64 0, .string ⟨#[]⟩] 32)
  have HBe := Lib.hid (best_no (hv.later hb1))
  have x0 := cellsAt_made (w := w) (cs := #[.int .i64 0, .int .i64 0, .int .i64 0, .string ⟨#[]⟩]) (vs := [.int .i64 0, .int .i64 0, .int .i64 0, .string ⟨#[]⟩]) rfl 32 rfl
  obtain ⟨ao, cap, rfl, hm⟩ := hv.open'
  simp only [List.length_nil] at HBe
  clear hv hm
  simp only [List.length_nil]
  go_enter Try.func32, Try.ntmps32
  go_wp2_with fail
  refine HBe.out.mono ?_
  rintro e w2 ⟨rfl, b2⟩
  have hR : w2.heap[w.heap.size]? = some (.cells #[.int .i64 0, .int .i64 0, .int .i64 0, .string ⟨#[]⟩] 32 (0, 0)) := (b2.block _ (by rw [World.size_alloc]; omega)).trans (heap_alloc_new w _)
  have o0 : w2.cell? ⟨w.heap.size, 0, none⟩ = some (.int .i64 0) := cell_of_row w2 _ 0 _ _ (0, 0) hR
  have o1 : w2.cell? ⟨w.heap.size, 1, none⟩ = some (.int .i64 0) := cell_of_row w2 _ 1 _ _ (0, 0) hR
  have o2 : w2.cell? ⟨w.heap.size, 2, none⟩ = some (.int .i64 0) := cell_of_row w2 _ 2 _ _ (0, 0) hR
  have o3 : w2.cell? ⟨w.heap.size, 3, none⟩ = some (.string ⟨#[]⟩) := cell_of_row w2 _ 3 _ _ (0, 0) hR
  have y0 : w2.frozen? ⟨w.heap.size, 0, none⟩ = false := frozen_of_row w2 _ 0 _ _ hR
  have y1 : w2.frozen? ⟨w.heap.size, 1, none⟩ = false := frozen_of_row w2 _ 1 _ _ hR
  have y2 : w2.frozen? ⟨w.heap.size, 2, none⟩ = false := frozen_of_row w2 _ 2 _ _ hR
  have y3 : w2.frozen? ⟨w.heap.size, 3, none⟩ = false := frozen_of_row w2 _ 3 _ _ hR
  have HB2 := Lib.hid (below2Z hb1 b2)
  have hs2 : w.heap.size < w2.heap.size := (Array.getElem?_eq_some_iff.1 hR).1
  clear b2 hb1 hR HBe
  go_wp2_with fail
  rw [setCell_id o0, setCell_id o1, setCell_id o2, setCell_id o3]
  have q0 : ∀ O, (w2.alloc O).cell? ⟨w.heap.size, 0, none⟩ = some (.int .i64 0) := fun O => (World.cell?_alloc_some w2 _ O (by rw [o0]; rfl)).trans o0
  have q1 : ∀ O, (w2.alloc O).cell? ⟨w.heap.size, 1, none⟩ = some (.int .i64 0) := fun O => (World.cell?_alloc_some w2 _ O (by rw [o1]; rfl)).trans o1
  have q2 : ∀ O, (w2.alloc O).cell? ⟨w.heap.size, 2, none⟩ = some (.int .i64 0) := fun O => (World.cell?_alloc_some w2 _ O (by rw [o2]; rfl)).trans o2
  have q3 : ∀ O, (w2.alloc O).cell? ⟨w.heap.size, 3, none⟩ = some (.string ⟨#[]⟩) := fun O => (World.cell?_alloc_some w2 _ O (by rw [o3]; rfl)).trans o3
  have B3 := Lib.hid (below2Z HB2.out (bl_newZ w2 (.cells #[.string ⟨#[]⟩, .int .i64 0, .int .i64 0, .int .i64 0, .int .i64 0, .string ⟨#[]⟩] 34)))
  generalize hW3 : w2.alloc (.cells #[.string ⟨#[]⟩, .int .i64 0, .int .i64 0, .int .i64 0, .int .i64 0, .string ⟨#[]⟩] 34) = W3 at B3 ⊢
  have p0 : W3.cell? ⟨w.heap.size, 0, none⟩ = some (.int .i64 0) := by rw [← hW3]; exact q0 _
  have p1 : W3.cell? ⟨w.heap.size, 1, none⟩ = some (.int .i64 0) := by rw [← hW3]; exact q1 _
  have p2 : W3.cell? ⟨w.heap.size, 2, none⟩ = some (.int .i64 0) := by rw [← hW3]; exact q2 _
  have p3 : W3.cell? ⟨w.heap.size, 3, none⟩ = some (.string ⟨#[]⟩) := by rw [← hW3]; exact q3 _
  refine bodyPost_ret (v := .tuple #[.agg #[.int .i64 0, .int .i64 0, .int .i64 0, .string ⟨#[]⟩], .bool false]) (by simp [results, Try.results32, go_sem, p0, p1, p2, p3]) rfl ⟨rfl, B3.out⟩

set_option maxRecDepth 100000 in
theorem rbvalue_no {w : World} {v : Value} (hv : Sess w v []) :
    Calls Try.prog 75 #[v] w fun e w' => e = .returned (.tuple #[.agg #[.int .i64 0, .int .i64 0, .int .i64 0, .string ⟨#[]⟩], .bool false]) ∧ Below w.heap.size w w' := by
  have hb1 := bl_newZ w (.cells #[.int .i64 0, .int .i64 0, .int .i64 0, .string ⟨#[]⟩] 32)
  have HBe := Lib.hid (rbest_no (hv.later hb1))
  have x0 := cellsAt_made (w := w) (cs := #[.int .i64 0, .int .i64 0, .int .i64 0, .string ⟨#[]⟩]) (vs := [.int .i64 0, .int .i64 0, .int .i64 0, .string ⟨#[]⟩]) rfl 32 rfl
  obtain ⟨ao, cap, rfl, hm⟩ := hv.open'
  simp only [List.length_nil] at HBe
  clear hv hm
  simp only [List.length_nil]
  go_enter Try.func75, Try.ntmps75
  go_wp2_with fail
  refine HBe.out.mono ?_
  rintro e w2 ⟨rfl, b2⟩
  have hR : w2.heap[w.heap.size]? = some (.cells #[.int .i64 0, .int .i64 0, .int .i64 0, .string ⟨#[]⟩] 32 (0, 0)) := (b2.block _ (by rw [World.size_alloc]; omega)).trans (heap_alloc_new w _)
  have o0 : w2.cell? ⟨w.heap.size, 0, none⟩ = some (.int .i64 0) := cell_of_row w2 _ 0 _ _ (0, 0) hR
  have o1 : w2.cell? ⟨w.heap.size, 1, none⟩ = some (.int .i64 0) := cell_of_row w2 _ 1 _ _ (0, 0) hR
  have o2 : w2.cell? ⟨w.heap.size, 2, none⟩ = some (.int .i64 0) := cell_of_row w2 _ 2 _ _ (0, 0) hR
  have o3 : w2.cell? ⟨w.heap.size, 3, none⟩ = some (.string ⟨#[]⟩) := cell_of_row w2 _ 3 _ _ (0, 0) hR
  have y0 : w2.frozen? ⟨w.heap.size, 0, none⟩ = false := frozen_of_row w2 _ 0 _ _ hR
  have y1 : w2.frozen? ⟨w.heap.size, 1, none⟩ = false := frozen_of_row w2 _ 1 _ _ hR
  have y2 : w2.frozen? ⟨w.heap.size, 2, none⟩ = false := frozen_of_row w2 _ 2 _ _ hR
  have y3 : w2.frozen? ⟨w.heap.size, 3, none⟩ = false := frozen_of_row w2 _ 3 _ _ hR
  have HB2 := Lib.hid (below2Z hb1 b2)
  have hs2 : w.heap.size < w2.heap.size := (Array.getElem?_eq_some_iff.1 hR).1
  clear b2 hb1 hR HBe
  go_wp2_with fail
  refine wp_loop_rounds 1 ?_
  rw [rounds_succ]
  go_wp2_with fail
  rw [setCell_id o0, setCell_id o1, setCell_id o2, setCell_id o3]
  refine bodyPost_ret (v := .tuple #[.agg #[.int .i64 0, .int .i64 0, .int .i64 0, .string ⟨#[]⟩], .bool false]) (by simp [results, Try.results75, go_sem, o0, o1, o2, o3, World.cell?_alloc_some]) rfl ⟨rfl, ?_⟩
  repeat (first | exact HB2.out | refine Below.setCell ?_ (by first | (simp; done) | (simp; omega)) _ | refine Below.alloc ?_ (by first | omega | (simp; done) | (simp; omega)) _)

end Go.Proofs.Ytkmbnpjnjlcjmaa
