/-
  THE CONTRACT OF live OF LAYER 5's STATEMENTS: it returns true.
-/
import Derived.Test.YtocjeehoghfnmaaDigRset
import Derived.Test.YtocjeehoghfnmaaDigSameC
import Derived.Test.YtocjeehoghfnmaaDigChange
import Derived.Test.YtocjeehoghfnmaaDigSum
import Derived.Test.YtocjeehoghfnmaaDigTake
import Derived.Test.YtocjeehoghfnmaaDigBox
import Derived.Deep.RegionHeld3
namespace Go.Proofs.Ytocjeehoghfnmaa
open Go.RowKit

def lvV : Val := ⟨4, 0, 5, []⟩
def lvB : Row := ⟨[98], lvV⟩
def lvA : Row := ⟨[97, 97], lvV⟩
def lvC : Row := ⟨[99], lvV⟩

theorem lv1 : Hid (diPut [lvB, lvA] = ([2, 1, 98, 4, 128, 5, 0, 2, 97, 97, 4, 128, 5, 0], true)) := by show _ = _; kernel_rfl
theorem lv2 : Hid (diTake [120, 2, 1, 98, 4, 128, 5, 0, 2, 97, 97, 4, 128, 5, 0] 1 = ([lvB, lvA], 15, 0)) := by show _ = _; kernel_rfl
theorem lv3 : Hid (diTake [33] 0 = ([], 0, 3)) := by show _ = _; kernel_rfl
theorem lv4 : Hid (diSet [lvB, lvA] ⟨[99], true, lvV⟩ = [lvB, lvC, lvA]) := by show _ = _; kernel_rfl
theorem lv5 : Hid (diSet [lvB, lvA] ⟨[98], false, Val.zero⟩ = [lvA]) := by show _ = _; kernel_rfl
theorem lv6 : Hid (diGet [lvB, lvA] [97, 97] = (⟨4, 0, 5, []⟩, true)) := by show _ = _; kernel_rfl
theorem lv7 : Hid (diGet [lvB, lvA] [99] = (⟨0, 0, 0, []⟩, false)) := by show _ = _; kernel_rfl
theorem lv8 : Hid (diChanges [lvB, lvA] [lvB, lvC, lvA] = [⟨[99], true, ⟨4, 0, 5, []⟩⟩]) := by show _ = _; kernel_rfl
theorem lv9 : Hid (tSame [lvB, lvA] [lvB, lvA] = true) := by show _ = _; exact tSame_iff.2 rfl
theorem lv10 : Hid (diMay [lvB, lvA] = true) := by show _ = _; kernel_rfl
theorem lv11 : Hid (diMay [lvA, lvB] = false) := by show _ = _; kernel_rfl
theorem lv12 : Hid (diSum [] = 12638153115695167455) := by show _ = _; kernel_rfl
theorem lv13 : Hid (((diSum [lvB, lvA] : Nat) == diSum [lvA]) = false) := by show _ = _; kernel_rfl

theorem short_lv : Short [lvB, lvA] := by
  intro r hr
  simp only [List.mem_cons, List.not_mem_nil, or_false] at hr
  rcases hr with rfl | rfl <;> exact ⟨by decide, by decide⟩
theorem short_lv2 : Short [lvA, lvB] := by
  intro r hr
  simp only [List.mem_cons, List.not_mem_nil, or_false] at hr
  rcases hr with rfl | rfl <;> exact ⟨by decide, by decide⟩
theorem short_lv3 : Short [lvB, lvC, lvA] := by
  intro r hr
  simp only [List.mem_cons, List.not_mem_nil, or_false] at hr
  rcases hr with rfl | rfl | rfl <;> exact ⟨by decide, by decide⟩
theorem short_lv4 : Short [lvA] := by
  intro r hr
  simp only [List.mem_cons, List.not_mem_nil, or_false] at hr
  rcases hr with rfl <;> exact ⟨by decide, by decide⟩

theorem keep26 {w w' : World} {a0 a1 a2 a3 a4 a5 a6 a7 a8 a9 a10 a11 a12 a13 a14 a15 a16 a17 a18 a19 a20 a21 a22 a23 a24 a25 : Addr} {v0 v1 v2 v3 v4 v5 v6 v7 v8 v9 v10 v11 v12 v13 v14 v15 v16 v17 v18 v19 v20 v21 v22 v23 v24 v25 : Value} (hb : Below w.heap.size w w') (h : w.cell? a0 = some v0 ∧ w.cell? a1 = some v1 ∧ w.cell? a2 = some v2 ∧ w.cell? a3 = some v3 ∧ w.cell? a4 = some v4 ∧ w.cell? a5 = some v5 ∧ w.cell? a6 = some v6 ∧ w.cell? a7 = some v7 ∧ w.cell? a8 = some v8 ∧ w.cell? a9 = some v9 ∧ w.cell? a10 = some v10 ∧ w.cell? a11 = some v11 ∧ w.cell? a12 = some v12 ∧ w.cell? a13 = some v13 ∧ w.cell? a14 = some v14 ∧ w.cell? a15 = some v15 ∧ w.cell? a16 = some v16 ∧ w.cell? a17 = some v17 ∧ w.cell? a18 = some v18 ∧ w.cell? a19 = some v19 ∧ w.cell? a20 = some v20 ∧ w.cell? a21 = some v21 ∧ w.cell? a22 = some v22 ∧ w.cell? a23 = some v23 ∧ w.cell? a24 = some v24 ∧ w.cell? a25 = some v25) : w'.cell? a0 = some v0 ∧ w'.cell? a1 = some v1 ∧ w'.cell? a2 = some v2 ∧ w'.cell? a3 = some v3 ∧ w'.cell? a4 = some v4 ∧ w'.cell? a5 = some v5 ∧ w'.cell? a6 = some v6 ∧ w'.cell? a7 = some v7 ∧ w'.cell? a8 = some v8 ∧ w'.cell? a9 = some v9 ∧ w'.cell? a10 = some v10 ∧ w'.cell? a11 = some v11 ∧ w'.cell? a12 = some v12 ∧ w'.cell? a13 = some v13 ∧ w'.cell? a14 = some v14 ∧ w'.cell? a15 = some v15 ∧ w'.cell? a16 = some v16 ∧ w'.cell? a17 = some v17 ∧ w'.cell? a18 = some v18 ∧ w'.cell? a19 = some v19 ∧ w'.cell? a20 = some v20 ∧ w'.cell? a21 = some v21 ∧ w'.cell? a22 = some v22 ∧ w'.cell? a23 = some v23 ∧ w'.cell? a24 = some v24 ∧ w'.cell? a25 = some v25 :=
  (And.imp (fun h => cell_later h hb) (And.imp (fun h => cell_later h hb) (And.imp (fun h => cell_later h hb) (And.imp (fun h => cell_later h hb) (And.imp (fun h => cell_later h hb) (And.imp (fun h => cell_later h hb) (And.imp (fun h => cell_later h hb) (And.imp (fun h => cell_later h hb) (And.imp (fun h => cell_later h hb) (And.imp (fun h => cell_later h hb) (And.imp (fun h => cell_later h hb) (And.imp (fun h => cell_later h hb) (And.imp (fun h => cell_later h hb) (And.imp (fun h => cell_later h hb) (And.imp (fun h => cell_later h hb) (And.imp (fun h => cell_later h hb) (And.imp (fun h => cell_later h hb) (And.imp (fun h => cell_later h hb) (And.imp (fun h => cell_later h hb) (And.imp (fun h => cell_later h hb) (And.imp (fun h => cell_later h hb) (And.imp (fun h => cell_later h hb) (And.imp (fun h => cell_later h hb) (And.imp (fun h => cell_later h hb) (And.imp (fun h => cell_later h hb) (fun h => cell_later h hb)))))))))))))))))))))))))) h

theorem short_nil : Short [] := fun r hr => by simp at hr

set_option linter.unusedSimpArgs false in
set_option maxHeartbeats 12800000 in
set_option maxRecDepth 1000000 in
theorem live5 (w : World) : Calls Try.prog 16 #[] w fun e w' => e = .returned (.bool true) ∧ Below w.heap.size w w' := by
  go_enter Try.func16, Try.ntmps16
  go_wp2_with fail
  have hE := Lib.hid (tab_made (w.alloc (.cells #[.int .i64 4, .int .i64 0, .int .i64 5, .string ⟨#[]⟩] 35)) (w.heap.size + 1) (by simp) 48 [lvB, lvA] (by decide) _ rfl 2 rfl)
  have B0 : Hid (Below w.heap.size w _) := bl_alloc (bl_alloc (Below.refl w.heap.size w) (.cells #[.int .i64 4, .int .i64 0, .int .i64 5, .string ⟨#[]⟩] 35)) (.cells (cellsOf [lvB, lvA]).toArray 48)
  obtain ⟨W0, hW0⟩ : ∃ W0, W0 = (w.alloc (.cells #[.int .i64 4, .int .i64 0, .int .i64 5, .string ⟨#[]⟩] 35)).alloc (.cells (cellsOf [lvB, lvA]).toArray 48) := ⟨_, rfl⟩
  have q0 : Hid (W0.cell? ⟨w.heap.size, 0, none⟩ = some (.int .i64 4)) := by rw [hW0]; show _ = _; simp
  have q1 : Hid (W0.cell? ⟨w.heap.size, 1, none⟩ = some (.int .i64 0)) := by rw [hW0]; show _ = _; simp
  have q2 : Hid (W0.cell? ⟨w.heap.size, 2, none⟩ = some (.int .i64 5)) := by rw [hW0]; show _ = _; simp
  have q3 : Hid (W0.cell? ⟨w.heap.size, 3, none⟩ = some (.string ⟨#[]⟩)) := by rw [hW0]; show _ = _; simp
  rw [← hW0] at hE B0
  have hW1 : W0 = (w.alloc (.cells #[.int .i64 4, .int .i64 0, .int .i64 5, .string ⟨#[]⟩] 35)).alloc (.cells #[.string ⟨#[98]⟩, .int .i64 4, .int .i64 0, .int .i64 5, .string ⟨#[]⟩, .string ⟨#[97, 97]⟩, .int .i64 4, .int .i64 0, .int .i64 5, .string ⟨#[]⟩] 48) := hW0
  rw [← hW1]
  clear hW0 hW1
  refine (diput_eq hE.out short_lv lv1).mono ?_
  rintro e w1 ⟨rfl, b⟩
  have C1 := Lib.hid b
  clear b
  go_wp2_with fail
  refine (ditake_any [120, 2, 1, 98, 4, 128, 5, 0, 2, 97, 97, 4, 128, 5, 0] (by decide) 1 _).mono ?_
  rw [lv2.out]
  rintro e w2 ⟨v5, rfl, h5, b⟩
  have C2 := Lib.hid (below2' C1.out b)
  have T5 := Lib.hid h5
  clear b h5 C1
  go_wp2_with fail
  refine (ditake_any [33] (by decide) 0 _).mono ?_
  rw [lv3.out]
  rintro e w3 ⟨v8, rfl, _, b⟩
  have C3 := Lib.hid (below2' C2.out b)
  have T5 := Lib.hid (T5.out.later b)
  have k0 := cell_later q0.out C3.out
  have k1 := cell_later q1.out C3.out
  have k2 := cell_later q2.out C3.out
  have k3 := cell_later q3.out C3.out
  clear b C2
  go_wp2_with fail
  refine (set_any (hE.out.later C3.out) (by decide) ⟨[99], true, lvV⟩).mono ?_
  rw [lv4.out]
  rintro e w4 ⟨u11, rfl, h11, b⟩
  have C4 := Lib.hid (below2' C3.out b)
  have T5 := Lib.hid (T5.out.later b)
  have O11 := Lib.hid h11
  clear b h11 C3 k0 k1 k2 k3
  go_wp2_with fail
  refine (set_any (hE.out.later C4.out) (by decide) ⟨[98], false, Val.zero⟩).mono ?_
  rw [lv5.out]
  rintro e w5 ⟨u12, rfl, h12, b⟩
  have C5 := Lib.hid (below2' C4.out b)
  have T5 := Lib.hid (T5.out.later b)
  have O11 := Lib.hid (O11.out.later b)
  have O12 := Lib.hid h12
  clear b h12 C4
  go_wp2_with fail
  refine (diget_eq (hE.out.later C5.out) [97, 97] lv6).mono ?_
  rintro e w6 ⟨rfl, b⟩
  have C6 := Lib.hid (below2' C5.out b)
  have T5 := Lib.hid (T5.out.later b)
  have O11 := Lib.hid (O11.out.later b)
  have O12 := Lib.hid (O12.out.later b)
  clear b C5
  go_wp2_with fail
  have D6 := Lib.hid (bl_alloc C6.out (.cells #[.int .i64 4, .int .i64 0, .int .i64 5, .string ⟨#[]⟩] 35))
  obtain ⟨p0, p1, p2, p3⟩ := four_cells w6 (.int .i64 4) (.int .i64 0) (.int .i64 5) (.string ⟨#[]⟩) 35
  have T5 := Lib.hid (T5.out.later ((Below.refl _ _).alloc (Nat.le_refl _) (.cells #[.int .i64 4, .int .i64 0, .int .i64 5, .string ⟨#[]⟩] 35)))
  have O11 := Lib.hid (O11.out.alloc (.cells #[.int .i64 4, .int .i64 0, .int .i64 5, .string ⟨#[]⟩] 35))
  have O12 := Lib.hid (O12.out.alloc (.cells #[.int .i64 4, .int .i64 0, .int .i64 5, .string ⟨#[]⟩] 35))
  have P0 := Lib.hid p0
  have P1 := Lib.hid p1
  have P2 := Lib.hid p2
  have P3 := Lib.hid p3
  clear p0 p1 p2 p3 C6
  refine (diget_eq (hE.out.later D6.out) [99] lv7).mono ?_
  rintro e w7 ⟨rfl, b⟩
  have D7 := Lib.hid (bl_alloc (below2' D6.out b) (.cells #[.int .i64 0, .int .i64 0, .int .i64 0, .string ⟨#[]⟩] 35))
  have b' := bl_alloc b (.cells #[.int .i64 0, .int .i64 0, .int .i64 0, .string ⟨#[]⟩] 35)
  have T5 := Lib.hid (T5.out.later b')
  have O11 := Lib.hid (O11.out.later b')
  have O12 := Lib.hid (O12.out.later b')
  have P0 := Lib.hid (cell_later P0.out b')
  have P1 := Lib.hid (cell_later P1.out b')
  have P2 := Lib.hid (cell_later P2.out b')
  have P3 := Lib.hid (cell_later P3.out b')
  clear b b' D6
  go_wp2_with fail
  refine (changes_any (hE.out.later D7.out) O11.out.tab short_lv short_lv3 (by decide) (by decide)).mono ?_
  rw [lv8.out]
  rintro e w8 ⟨u17, rfl, h17, b⟩
  have D8 := Lib.hid (below2' D7.out b)
  have T5 := Lib.hid (T5.out.later b)
  have O11 := Lib.hid (O11.out.later b)
  have O12 := Lib.hid (O12.out.later b)
  have P0 := Lib.hid (cell_later P0.out b)
  have P1 := Lib.hid (cell_later P1.out b)
  have P2 := Lib.hid (cell_later P2.out b)
  have P3 := Lib.hid (cell_later P3.out b)
  have L17 := Lib.hid h17
  clear b h17 D7
  go_wp2_with fail
  have O11 := O11.out
  have O12 := Lib.hid O12.out
  have p0 := P0.out
  have p1 := P1.out
  have p2 := P2.out
  have p3 := P3.out
  have k0 := cell_later q0.out D8.out
  have k1 := cell_later q1.out D8.out
  have k2 := cell_later q2.out D8.out
  have k3 := cell_later q3.out D8.out
  have L17 := L17.out
  rcases O11.2 with ⟨_, h0⟩ | ⟨g, cap, cur, rfl, _⟩
  · cases h0
  rcases O12.out.2 with ⟨_, h0⟩ | ⟨g2, cap2, cur2, rfl, _⟩
  · cases h0
  obtain ⟨ac, capc, rfl, _⟩ := L17.open'
  obtain ⟨bc, oc, rfl, c0, c1, c2, c3, c4, c5⟩ := L17.row (Below.refl _ _) 0 (by decide)
  have x11 : w8.cell? ⟨g, 5, none⟩ = some (.string ⟨#[99]⟩) := O11.cellAt 5 (by decide)
  have x12 : w8.cell? ⟨g2, 0, none⟩ = some (.string ⟨#[97, 97]⟩) := O12.out.cellAt 0 (by decide)
  have hT8 := hE.out.later D8.out
  obtain ⟨_, _, e0, d0, d1, d2, d3, d4⟩ := hT8.row (Below.refl _ _) 0 (by decide)
  injection e0 with e0
  injection e0 with e1 e2 _
  subst e1 e2
  obtain ⟨_, _, e0, f0, f1, f2, f3, f4⟩ := hT8.row (Below.refl _ _) 1 (by decide)
  injection e0 with e0
  injection e0 with e1 e2 _
  subst e1 e2
  have hce : ∀ w : World, (binOp .eql 37 (.agg #[.string ⟨#[99]⟩, .bool true, .int .i64 4, .int .i64 0, .int .i64 5, .string ⟨#[]⟩]) (.agg #[.string ⟨#[99]⟩, .bool true, .int .i64 4, .int .i64 0, .int .i64 5, .string ⟨#[]⟩])).run Try.prog w = .ok (.bool true) w := fun w => (chg_eql6 [99] [99] true true 4 0 5 4 0 5 [] [] w).trans rfl
  have hve : ∀ w : World, (binOp .eql 35 (.agg #[.int .i64 4, .int .i64 0, .int .i64 5, .string ⟨#[]⟩]) (.agg #[.int .i64 4, .int .i64 0, .int .i64 5, .string ⟨#[]⟩])).run Try.prog w = .ok (.bool true) w := fun w => (val_eql5 4 0 5 4 0 5 [] [] w).trans rfl
  have hw15 : IntKind.i64.wrap 15 = 15 := IntWalk.i64_in _ (by omega)
  have hgd1 : Try.prog.eqGuardType Try.prog.depth 37 = false := by kernel_rfl
  have hgd2 : Try.prog.eqGuardType Try.prog.depth 35 = false := by kernel_rfl
  obtain ⟨s1, hs1⟩ : ∃ s1, s1 = diSum [lvB, lvA] := ⟨_, rfl⟩
  obtain ⟨s2, hs2⟩ : ∃ s2, s2 = diSum [lvA] := ⟨_, rfl⟩
  have hsn : ((s1 : Int) != (s2 : Int)) = true := by
    have := lv13.out
    rw [← hs1, ← hs2] at this
    simp at this ⊢
    omega
  obtain ⟨z, hz⟩ : ∃ z : Int, z = 12638153115695167455 := ⟨_, rfl⟩
  have tz : (z == 12638153115695167455) = true := by rw [hz]; rfl
  have HD0 : Hid (∀ (x : World), Calls Try.prog 21 #[.slice none 0 0] x fun e x' => e = .returned (.int .u64 z) ∧ Below x.heap.size x x') := Lib.hid fun x => by
    have := disum_any (tab_nil x) short_nil
    rw [lv12.out] at this
    rw [hz]
    exact this
  clear hz
  have HD1 : Hid (∀ {x : World} {v : Value}, Tab x v [lvB, lvA] → Calls Try.prog 21 #[v] x fun e x' => e = .returned (.int .u64 s1) ∧ Below x.heap.size x x') := Lib.hid fun h => by
    have := disum_any h short_lv
    rw [← hs1] at this
    exact this
  have HD2 : Hid (∀ {x : World} {v : Value}, Tab x v [lvA] → Calls Try.prog 21 #[v] x fun e x' => e = .returned (.int .u64 s2) ∧ Below x.heap.size x x') := Lib.hid fun h => by
    have := disum_any h short_lv4
    rw [← hs2] at this
    exact this
  clear O11 L17 hT8 P0 P1 P2 P3 hs1 hs2 q0 q1 q2 q3
  simp only [Nat.zero_add, Nat.zero_mul, Nat.add_zero, Nat.one_mul, List.getD, List.getElem?_cons_zero, List.getElem?_cons_succ, Option.getD_some, lvB, lvA, lvV] at c0 c1 c2 c3 c4 c5 d0 d1 d2 d3 d4 f0 f1 f2 f3 f4
  simp only [List.append_eq, List.cons_append, List.nil_append]
  refine wp_region_noPanic ?_
  refine wp_region_held_drew (S := (fun W => W.cell? ⟨w.heap.size, 0, none⟩ = some (.int .i64 4) ∧ W.cell? ⟨w.heap.size, 1, none⟩ = some (.int .i64 0) ∧ W.cell? ⟨w.heap.size, 2, none⟩ = some (.int .i64 5) ∧ W.cell? ⟨w.heap.size, 3, none⟩ = some (.string ⟨#[]⟩) ∧ W.cell? ⟨w6.heap.size, 0, none⟩ = some (.int .i64 4) ∧ W.cell? ⟨w6.heap.size, 1, none⟩ = some (.int .i64 0) ∧ W.cell? ⟨w6.heap.size, 2, none⟩ = some (.int .i64 5) ∧ W.cell? ⟨w6.heap.size, 3, none⟩ = some (.string ⟨#[]⟩) ∧ W.cell? ⟨g, 5, none⟩ = some (.string ⟨#[99]⟩) ∧ W.cell? ⟨g2, 0, none⟩ = some (.string ⟨#[97, 97]⟩) ∧ W.cell? ⟨bc, oc, none⟩ = some (.string ⟨#[99]⟩) ∧ W.cell? ⟨bc, oc + 1, none⟩ = some (.bool true) ∧ W.cell? ⟨bc, oc + 2, none⟩ = some (.int .i64 4) ∧ W.cell? ⟨bc, oc + 3, none⟩ = some (.int .i64 0) ∧ W.cell? ⟨bc, oc + 4, none⟩ = some (.int .i64 5) ∧ W.cell? ⟨bc, oc + 5, none⟩ = some (.string ⟨#[]⟩) ∧ W.cell? ⟨w.heap.size + 1, 0, none⟩ = some (.string ⟨#[98]⟩) ∧ W.cell? ⟨w.heap.size + 1, 1, none⟩ = some (.int .i64 4) ∧ W.cell? ⟨w.heap.size + 1, 2, none⟩ = some (.int .i64 0) ∧ W.cell? ⟨w.heap.size + 1, 3, none⟩ = some (.int .i64 5) ∧ W.cell? ⟨w.heap.size + 1, 4, none⟩ = some (.string ⟨#[]⟩) ∧ W.cell? ⟨w.heap.size + 1, 5, none⟩ = some (.string ⟨#[97, 97]⟩) ∧ W.cell? ⟨w.heap.size + 1, 6, none⟩ = some (.int .i64 4) ∧ W.cell? ⟨w.heap.size + 1, 7, none⟩ = some (.int .i64 0) ∧ W.cell? ⟨w.heap.size + 1, 8, none⟩ = some (.int .i64 5) ∧ W.cell? ⟨w.heap.size + 1, 9, none⟩ = some (.string ⟨#[]⟩))) (by kernel_rfl) ?_ (fun hHeld => ?_)
  · exact keep26 (Below.refl _ _).drew (by exact ⟨k0, k1, k2, k3, p0, p1, p2, p3, x11, x12, c0, c1, c2, c3, c4, c5, d0, d1, d2, d3, d4, f0, f1, f2, f3, f4⟩)
  refine wpAnyH_take (i := 0) (oi := { dst := some 61, op := Go.Op.move (Go.Operand.tmp 3), type := 9, pos := "law.go:22", after := #[], guard := none }) (v := ?_) rfl (by as_aux_lemma => kernel_rfl) (by as_aux_lemma => kernel_rfl) (by as_aux_lemma => kernel_rfl) (fun _ _ _ h => h) (Or.inl ⟨by rfl, ?_⟩) (by assumption) ?_
  rotate_left
  · intro w' hSw
    try dsimp only at hSw
    go_simp
    try with_reducible rfl
  try simp only [Act.put, List.setIfInBounds_toArray, List.set_cons_zero, List.set_cons_succ]
  refine wpAnyH_take (i := 1) (oi := { dst := some 62, op := Go.Op.binOp Go.BinOp.eql 9 (Go.Operand.tmp 61) (Go.Operand.const (Go.Value.string { data := #[2, 1, 98, 4, 128, 5, 0, 2, 97, 97, 4, 128, 5, 0] })) 9, type := 4, pos := "law.go:22", after := #[{ on := 0, ground := Go.Ground.data }], guard := none }) (v := ?_) rfl (by as_aux_lemma => kernel_rfl) (by as_aux_lemma => kernel_rfl) (by as_aux_lemma => kernel_rfl) (fun _ _ _ h => h) (Or.inl ⟨by rfl, ?_⟩) (by assumption) ?_
  rotate_left
  · intro w' hSw
    try dsimp only at hSw
    go_simp
    try with_reducible rfl
  try simp only [Act.put, List.setIfInBounds_toArray, List.set_cons_zero, List.set_cons_succ]
  refine wpAnyH_take (i := 2) (oi := { dst := some 63, op := Go.Op.move (Go.Operand.tmp 62), type := 4, pos := "law.go:22", after := #[{ on := 1, ground := Go.Ground.data }], guard := none }) (v := ?_) rfl (by as_aux_lemma => kernel_rfl) (by as_aux_lemma => kernel_rfl) (by as_aux_lemma => kernel_rfl) (fun _ _ _ h => h) (Or.inl ⟨by rfl, ?_⟩) (by assumption) ?_
  rotate_left
  · intro w' hSw
    try dsimp only at hSw
    go_simp
    try with_reducible rfl
  try simp only [Act.put, List.setIfInBounds_toArray, List.set_cons_zero, List.set_cons_succ]
  refine wpAnyH_take (i := 3) (oi := { dst := some 64, op := Go.Op.move (Go.Operand.tmp 4), type := 4, pos := "law.go:22", after := #[{ on := 2, ground := Go.Ground.guard }], guard := some (2, true) }) (v := ?_) rfl (by as_aux_lemma => kernel_rfl) (by as_aux_lemma => kernel_rfl) (by as_aux_lemma => kernel_rfl) (fun _ _ _ h => h) (Or.inl ⟨by rfl, ?_⟩) (by assumption) ?_
  rotate_left
  · intro w' hSw
    try dsimp only at hSw
    go_simp
    try with_reducible rfl
  try simp only [Act.put, List.setIfInBounds_toArray, List.set_cons_zero, List.set_cons_succ]
  refine wpAnyH_take (i := 4) (oi := { dst := some 65, op := Go.Op.pick (Go.Operand.tmp 63) (Go.Operand.tmp 64) (Go.Operand.const (Go.Value.bool false)), type := 4, pos := "law.go:22", after := #[{ on := 2, ground := Go.Ground.data }, { on := 3, ground := Go.Ground.data }], guard := none }) (v := ?_) rfl (by as_aux_lemma => kernel_rfl) (by as_aux_lemma => kernel_rfl) (by as_aux_lemma => kernel_rfl) (fun _ _ _ h => h) (Or.inl ⟨by rfl, ?_⟩) (by assumption) ?_
  rotate_left
  · intro w' hSw
    try dsimp only at hSw
    go_simp
    try with_reducible rfl
  try simp only [Act.put, List.setIfInBounds_toArray, List.set_cons_zero, List.set_cons_succ]
  refine wpAnyH_take (i := 5) (oi := { dst := some 66, op := Go.Op.move (Go.Operand.tmp 65), type := 4, pos := "law.go:22", after := #[{ on := 4, ground := Go.Ground.data }, { on := 2, ground := Go.Ground.chain }], guard := none }) (v := ?_) rfl (by as_aux_lemma => kernel_rfl) (by as_aux_lemma => kernel_rfl) (by as_aux_lemma => kernel_rfl) (fun _ _ _ h => h) (Or.inl ⟨by rfl, ?_⟩) (by assumption) ?_
  rotate_left
  · intro w' hSw
    try dsimp only at hSw
    go_simp
    try with_reducible rfl
  try simp only [Act.put, List.setIfInBounds_toArray, List.set_cons_zero, List.set_cons_succ]
  refine wpAnyH_take (i := 6) (oi := { dst := some 67, op := Go.Op.move (Go.Operand.tmp 2), type := 22, pos := "law.go:22", after := #[{ on := 5, ground := Go.Ground.guard }], guard := some (5, true) }) (v := ?_) rfl (by as_aux_lemma => kernel_rfl) (by as_aux_lemma => kernel_rfl) (by as_aux_lemma => kernel_rfl) (fun _ _ _ h => h) (Or.inl ⟨by rfl, ?_⟩) (by assumption) ?_
  rotate_left
  · intro w' hSw
    try dsimp only at hSw
    go_simp
    try with_reducible rfl
  try simp only [Act.put, List.setIfInBounds_toArray, List.set_cons_zero, List.set_cons_succ]
  refine wpAnyH_take (i := 7) (oi := { dst := some 68, op := Go.Op.move (Go.Operand.tmp 5), type := 22, pos := "law.go:22", after := #[{ on := 5, ground := Go.Ground.guard }], guard := some (5, true) }) (v := ?_) rfl (by as_aux_lemma => kernel_rfl) (by as_aux_lemma => kernel_rfl) (by as_aux_lemma => kernel_rfl) (fun _ _ _ h => h) (Or.inl ⟨by rfl, ?_⟩) (by assumption) ?_
  rotate_left
  · intro w' hSw
    try dsimp only at hSw
    go_simp
    try with_reducible rfl
  try simp only [Act.put, List.setIfInBounds_toArray, List.set_cons_zero, List.set_cons_succ]
  refine wpAnyH_ready (rs := [8]) (by as_aux_lemma => kernel_rfl) (by simp) ?_
  refine AllReadyH.cons (o := { dst := some 69, op := Go.Op.call { callee := Go.Callee.value (Go.Operand.func 25), args := #[Go.Operand.tmp 67, Go.Operand.tmp 68], argTypes := #[22, 22] }, type := 4, pos := "law.go:22", after := #[{ on := 6, ground := Go.Ground.data }, { on := 7, ground := Go.Ground.data }, { on := 5, ground := Go.Ground.chain }, { on := 5, ground := Go.Ground.guard }], guard := some (5, true) }) rfl (fun K hK => ?_) AllReadyH.nil
  go_simp
  refine (tsame_eq (hE.out.later D8.out.drew) (T5.out.later (Below.refl _ _).drew) lv9).mono ?_
  rintro e w9 ⟨rfl, hb9⟩
  have D9 := Lib.hid (below2' D8.out.drew hb9)
  have O9 := Lib.hid (O12.out.drew.later hb9)
  clear k0 k1 k2 k3 p0 p1 p2 p3 c0 c1 c2 c3 c4 c5 d0 d1 d2 d3 d4 f0 f1 f2 f3 f4 x11 x12
  go_wp2_with fail
  refine hK.out _ _ ?_ (fun hHeld2 => ?_)
  · exact keep26 hb9 hHeld
  clear hK K hHeld
  have hHeld := hHeld2
  clear hHeld2 hb9
  try simp only [Act.put, List.setIfInBounds_toArray, List.set_cons_zero, List.set_cons_succ]
  refine wpAnyH_take (i := 9) (oi := { dst := some 70, op := Go.Op.pick (Go.Operand.tmp 66) (Go.Operand.tmp 69) (Go.Operand.const (Go.Value.bool false)), type := 4, pos := "law.go:22", after := #[{ on := 5, ground := Go.Ground.data }, { on := 8, ground := Go.Ground.data }], guard := none }) (v := ?_) rfl (by as_aux_lemma => kernel_rfl) (by as_aux_lemma => kernel_rfl) (by as_aux_lemma => kernel_rfl) (fun _ _ _ h => h) (Or.inl ⟨by rfl, ?_⟩) (by assumption) ?_
  rotate_left
  · intro w' hSw
    try dsimp only at hSw
    go_simp
    try with_reducible rfl
  try simp only [Act.put, List.setIfInBounds_toArray, List.set_cons_zero, List.set_cons_succ]
  refine wpAnyH_take (i := 10) (oi := { dst := some 71, op := Go.Op.move (Go.Operand.tmp 70), type := 4, pos := "law.go:22", after := #[{ on := 9, ground := Go.Ground.data }, { on := 8, ground := Go.Ground.chain }], guard := none }) (v := ?_) rfl (by as_aux_lemma => kernel_rfl) (by as_aux_lemma => kernel_rfl) (by as_aux_lemma => kernel_rfl) (fun _ _ _ h => h) (Or.inl ⟨by rfl, ?_⟩) (by assumption) ?_
  rotate_left
  · intro w' hSw
    try dsimp only at hSw
    go_simp
    try with_reducible rfl
  try simp only [Act.put, List.setIfInBounds_toArray, List.set_cons_zero, List.set_cons_succ]
  refine wpAnyH_take (i := 11) (oi := { dst := some 72, op := Go.Op.move (Go.Operand.tmp 6), type := 3, pos := "law.go:22", after := #[{ on := 10, ground := Go.Ground.guard }], guard := some (10, true) }) (v := ?_) rfl (by as_aux_lemma => kernel_rfl) (by as_aux_lemma => kernel_rfl) (by as_aux_lemma => kernel_rfl) (fun _ _ _ h => h) (Or.inl ⟨by rfl, ?_⟩) (by assumption) ?_
  rotate_left
  · intro w' hSw
    try dsimp only at hSw
    go_simp
    try with_reducible rfl
  try simp only [Act.put, List.setIfInBounds_toArray, List.set_cons_zero, List.set_cons_succ]
  refine wpAnyH_take (i := 12) (oi := { dst := some 73, op := Go.Op.move (Go.Operand.tmp 3), type := 9, pos := "law.go:22", after := #[{ on := 10, ground := Go.Ground.guard }], guard := some (10, true) }) (v := ?_) rfl (by as_aux_lemma => kernel_rfl) (by as_aux_lemma => kernel_rfl) (by as_aux_lemma => kernel_rfl) (fun _ _ _ h => h) (Or.inl ⟨by rfl, ?_⟩) (by assumption) ?_
  rotate_left
  · intro w' hSw
    try dsimp only at hSw
    go_simp
    try with_reducible rfl
  try simp only [Act.put, List.setIfInBounds_toArray, List.set_cons_zero, List.set_cons_succ]
  refine wpAnyH_take (i := 13) (oi := { dst := some 74, op := Go.Op.call { callee := Go.Callee.builtin Go.Builtin.len, args := #[Go.Operand.tmp 73], argTypes := #[9] }, type := 3, pos := "law.go:22", after := #[{ on := 12, ground := Go.Ground.data }, { on := 10, ground := Go.Ground.guard }], guard := some (10, true) }) (v := ?_) rfl (by as_aux_lemma => kernel_rfl) (by as_aux_lemma => kernel_rfl) (by as_aux_lemma => kernel_rfl) (fun _ _ _ h => h) (Or.inl ⟨by rfl, ?_⟩) (by assumption) ?_
  rotate_left
  · intro w' hSw
    try dsimp only at hSw
    go_simp
    try with_reducible rfl
  try simp only [Act.put, List.setIfInBounds_toArray, List.set_cons_zero, List.set_cons_succ]
  refine wpAnyH_take (i := 14) (oi := { dst := some 75, op := Go.Op.binOp Go.BinOp.add 3 (Go.Operand.const (Go.Value.int Go.IntKind.i64 1)) (Go.Operand.tmp 74) 3, type := 3, pos := "law.go:22", after := #[{ on := 13, ground := Go.Ground.data }, { on := 10, ground := Go.Ground.guard }], guard := some (10, true) }) (v := ?_) rfl (by as_aux_lemma => kernel_rfl) (by as_aux_lemma => kernel_rfl) (by as_aux_lemma => kernel_rfl) (fun _ _ _ h => h) (Or.inl ⟨by rfl, ?_⟩) (by assumption) ?_
  rotate_left
  · intro w' hSw
    try dsimp only at hSw
    go_simp
    try with_reducible rfl
  try simp only [Act.put, List.setIfInBounds_toArray, List.set_cons_zero, List.set_cons_succ]
  refine wpAnyH_take (i := 15) (oi := { dst := some 76, op := Go.Op.binOp Go.BinOp.eql 3 (Go.Operand.tmp 72) (Go.Operand.tmp 75) 3, type := 4, pos := "law.go:22", after := #[{ on := 11, ground := Go.Ground.data }, { on := 14, ground := Go.Ground.data }, { on := 10, ground := Go.Ground.guard }], guard := some (10, true) }) (v := ?_) rfl (by as_aux_lemma => kernel_rfl) (by as_aux_lemma => kernel_rfl) (by as_aux_lemma => kernel_rfl) (fun _ _ _ h => h) (Or.inl ⟨by rfl, ?_⟩) (by assumption) ?_
  rotate_left
  · intro w' hSw
    try dsimp only at hSw
    go_simp
    try with_reducible rfl
  try simp only [Act.put, List.setIfInBounds_toArray, List.set_cons_zero, List.set_cons_succ]
  refine wpAnyH_take (i := 16) (oi := { dst := some 77, op := Go.Op.pick (Go.Operand.tmp 71) (Go.Operand.tmp 76) (Go.Operand.const (Go.Value.bool false)), type := 4, pos := "law.go:22", after := #[{ on := 10, ground := Go.Ground.data }, { on := 15, ground := Go.Ground.data }], guard := none }) (v := ?_) rfl (by as_aux_lemma => kernel_rfl) (by as_aux_lemma => kernel_rfl) (by as_aux_lemma => kernel_rfl) (fun _ _ _ h => h) (Or.inl ⟨by rfl, ?_⟩) (by assumption) ?_
  rotate_left
  · intro w' hSw
    try dsimp only at hSw
    go_simp
    try with_reducible rfl
  try simp only [Act.put, List.setIfInBounds_toArray, List.set_cons_zero, List.set_cons_succ]
  refine wpAnyH_take (i := 17) (oi := { dst := some 78, op := Go.Op.move (Go.Operand.tmp 77), type := 4, pos := "law.go:22", after := #[{ on := 16, ground := Go.Ground.data }, { on := 10, ground := Go.Ground.chain }], guard := none }) (v := ?_) rfl (by as_aux_lemma => kernel_rfl) (by as_aux_lemma => kernel_rfl) (by as_aux_lemma => kernel_rfl) (fun _ _ _ h => h) (Or.inl ⟨by rfl, ?_⟩) (by assumption) ?_
  rotate_left
  · intro w' hSw
    try dsimp only at hSw
    go_simp
    try with_reducible rfl
  try simp only [Act.put, List.setIfInBounds_toArray, List.set_cons_zero, List.set_cons_succ]
  refine wpAnyH_take (i := 18) (oi := { dst := some 79, op := Go.Op.move (Go.Operand.tmp 7), type := 29, pos := "law.go:22", after := #[{ on := 17, ground := Go.Ground.guard }], guard := some (17, true) }) (v := ?_) rfl (by as_aux_lemma => kernel_rfl) (by as_aux_lemma => kernel_rfl) (by as_aux_lemma => kernel_rfl) (fun _ _ _ h => h) (Or.inl ⟨by rfl, ?_⟩) (by assumption) ?_
  rotate_left
  · intro w' hSw
    try dsimp only at hSw
    go_simp
    try with_reducible rfl
  try simp only [Act.put, List.setIfInBounds_toArray, List.set_cons_zero, List.set_cons_succ]
  refine wpAnyH_take (i := 19) (oi := { dst := some 80, op := Go.Op.binOp Go.BinOp.eql 29 (Go.Operand.tmp 79) (Go.Operand.const (Go.Value.int Go.IntKind.i64 0)) 29, type := 4, pos := "law.go:22", after := #[{ on := 18, ground := Go.Ground.data }, { on := 17, ground := Go.Ground.guard }], guard := some (17, true) }) (v := ?_) rfl (by as_aux_lemma => kernel_rfl) (by as_aux_lemma => kernel_rfl) (by as_aux_lemma => kernel_rfl) (fun _ _ _ h => h) (Or.inl ⟨by rfl, ?_⟩) (by assumption) ?_
  rotate_left
  · intro w' hSw
    try dsimp only at hSw
    go_simp
    try with_reducible rfl
  try simp only [Act.put, List.setIfInBounds_toArray, List.set_cons_zero, List.set_cons_succ]
  refine wpAnyH_take (i := 20) (oi := { dst := some 81, op := Go.Op.pick (Go.Operand.tmp 78) (Go.Operand.tmp 80) (Go.Operand.const (Go.Value.bool false)), type := 4, pos := "law.go:22", after := #[{ on := 17, ground := Go.Ground.data }, { on := 19, ground := Go.Ground.data }], guard := none }) (v := ?_) rfl (by as_aux_lemma => kernel_rfl) (by as_aux_lemma => kernel_rfl) (by as_aux_lemma => kernel_rfl) (fun _ _ _ h => h) (Or.inl ⟨by rfl, ?_⟩) (by assumption) ?_
  rotate_left
  · intro w' hSw
    try dsimp only at hSw
    go_simp
    try with_reducible rfl
  try simp only [Act.put, List.setIfInBounds_toArray, List.set_cons_zero, List.set_cons_succ]
  refine wpAnyH_take (i := 21) (oi := { dst := some 82, op := Go.Op.move (Go.Operand.tmp 81), type := 4, pos := "law.go:22", after := #[{ on := 20, ground := Go.Ground.data }, { on := 17, ground := Go.Ground.chain }], guard := none }) (v := ?_) rfl (by as_aux_lemma => kernel_rfl) (by as_aux_lemma => kernel_rfl) (by as_aux_lemma => kernel_rfl) (fun _ _ _ h => h) (Or.inl ⟨by rfl, ?_⟩) (by assumption) ?_
  rotate_left
  · intro w' hSw
    try dsimp only at hSw
    go_simp
    try with_reducible rfl
  try simp only [Act.put, List.setIfInBounds_toArray, List.set_cons_zero, List.set_cons_succ]
  refine wpAnyH_take (i := 22) (oi := { dst := some 83, op := Go.Op.move (Go.Operand.tmp 10), type := 29, pos := "law.go:22", after := #[{ on := 21, ground := Go.Ground.guard }], guard := some (21, true) }) (v := ?_) rfl (by as_aux_lemma => kernel_rfl) (by as_aux_lemma => kernel_rfl) (by as_aux_lemma => kernel_rfl) (fun _ _ _ h => h) (Or.inl ⟨by rfl, ?_⟩) (by assumption) ?_
  rotate_left
  · intro w' hSw
    try dsimp only at hSw
    go_simp
    try with_reducible rfl
  try simp only [Act.put, List.setIfInBounds_toArray, List.set_cons_zero, List.set_cons_succ]
  refine wpAnyH_take (i := 23) (oi := { dst := some 84, op := Go.Op.binOp Go.BinOp.eql 29 (Go.Operand.tmp 83) (Go.Operand.const (Go.Value.int Go.IntKind.i64 3)) 29, type := 4, pos := "law.go:22", after := #[{ on := 22, ground := Go.Ground.data }, { on := 21, ground := Go.Ground.guard }], guard := some (21, true) }) (v := ?_) rfl (by as_aux_lemma => kernel_rfl) (by as_aux_lemma => kernel_rfl) (by as_aux_lemma => kernel_rfl) (fun _ _ _ h => h) (Or.inl ⟨by rfl, ?_⟩) (by assumption) ?_
  rotate_left
  · intro w' hSw
    try dsimp only at hSw
    go_simp
    try with_reducible rfl
  try simp only [Act.put, List.setIfInBounds_toArray, List.set_cons_zero, List.set_cons_succ]
  refine wpAnyH_take (i := 24) (oi := { dst := some 85, op := Go.Op.pick (Go.Operand.tmp 82) (Go.Operand.tmp 84) (Go.Operand.const (Go.Value.bool false)), type := 4, pos := "law.go:22", after := #[{ on := 21, ground := Go.Ground.data }, { on := 23, ground := Go.Ground.data }], guard := none }) (v := ?_) rfl (by as_aux_lemma => kernel_rfl) (by as_aux_lemma => kernel_rfl) (by as_aux_lemma => kernel_rfl) (fun _ _ _ h => h) (Or.inl ⟨by rfl, ?_⟩) (by assumption) ?_
  rotate_left
  · intro w' hSw
    try dsimp only at hSw
    go_simp
    try with_reducible rfl
  try simp only [Act.put, List.setIfInBounds_toArray, List.set_cons_zero, List.set_cons_succ]
  refine wpAnyH_take (i := 25) (oi := { dst := some 86, op := Go.Op.move (Go.Operand.tmp 85), type := 4, pos := "law.go:22", after := #[{ on := 24, ground := Go.Ground.data }, { on := 21, ground := Go.Ground.chain }], guard := none }) (v := ?_) rfl (by as_aux_lemma => kernel_rfl) (by as_aux_lemma => kernel_rfl) (by as_aux_lemma => kernel_rfl) (fun _ _ _ h => h) (Or.inl ⟨by rfl, ?_⟩) (by assumption) ?_
  rotate_left
  · intro w' hSw
    try dsimp only at hSw
    go_simp
    try with_reducible rfl
  try simp only [Act.put, List.setIfInBounds_toArray, List.set_cons_zero, List.set_cons_succ]
  refine wpAnyH_take (i := 26) (oi := { dst := some 87, op := Go.Op.move (Go.Operand.tmp 11), type := 22, pos := "law.go:22", after := #[{ on := 25, ground := Go.Ground.guard }], guard := some (25, true) }) (v := ?_) rfl (by as_aux_lemma => kernel_rfl) (by as_aux_lemma => kernel_rfl) (by as_aux_lemma => kernel_rfl) (fun _ _ _ h => h) (Or.inl ⟨by rfl, ?_⟩) (by assumption) ?_
  rotate_left
  · intro w' hSw
    try dsimp only at hSw
    go_simp
    try with_reducible rfl
  try simp only [Act.put, List.setIfInBounds_toArray, List.set_cons_zero, List.set_cons_succ]
  refine wpAnyH_take (i := 27) (oi := { dst := some 88, op := Go.Op.call { callee := Go.Callee.builtin Go.Builtin.len, args := #[Go.Operand.tmp 87], argTypes := #[22] }, type := 3, pos := "law.go:22", after := #[{ on := 26, ground := Go.Ground.data }, { on := 25, ground := Go.Ground.guard }], guard := some (25, true) }) (v := ?_) rfl (by as_aux_lemma => kernel_rfl) (by as_aux_lemma => kernel_rfl) (by as_aux_lemma => kernel_rfl) (fun _ _ _ h => h) (Or.inl ⟨by rfl, ?_⟩) (by assumption) ?_
  rotate_left
  · intro w' hSw
    try dsimp only at hSw
    go_simp
    try with_reducible rfl
  try simp only [Act.put, List.setIfInBounds_toArray, List.set_cons_zero, List.set_cons_succ]
  refine wpAnyH_take (i := 28) (oi := { dst := some 89, op := Go.Op.binOp Go.BinOp.eql 3 (Go.Operand.tmp 88) (Go.Operand.const (Go.Value.int Go.IntKind.i64 3)) 3, type := 4, pos := "law.go:22", after := #[{ on := 27, ground := Go.Ground.data }, { on := 25, ground := Go.Ground.guard }], guard := some (25, true) }) (v := ?_) rfl (by as_aux_lemma => kernel_rfl) (by as_aux_lemma => kernel_rfl) (by as_aux_lemma => kernel_rfl) (fun _ _ _ h => h) (Or.inl ⟨by rfl, ?_⟩) (by assumption) ?_
  rotate_left
  · intro w' hSw
    try dsimp only at hSw
    go_simp
    try with_reducible rfl
  try simp only [Act.put, List.setIfInBounds_toArray, List.set_cons_zero, List.set_cons_succ]
  refine wpAnyH_take (i := 29) (oi := { dst := some 90, op := Go.Op.pick (Go.Operand.tmp 86) (Go.Operand.tmp 89) (Go.Operand.const (Go.Value.bool false)), type := 4, pos := "law.go:22", after := #[{ on := 25, ground := Go.Ground.data }, { on := 28, ground := Go.Ground.data }], guard := none }) (v := ?_) rfl (by as_aux_lemma => kernel_rfl) (by as_aux_lemma => kernel_rfl) (by as_aux_lemma => kernel_rfl) (fun _ _ _ h => h) (Or.inl ⟨by rfl, ?_⟩) (by assumption) ?_
  rotate_left
  · intro w' hSw
    try dsimp only at hSw
    go_simp
    try with_reducible rfl
  try simp only [Act.put, List.setIfInBounds_toArray, List.set_cons_zero, List.set_cons_succ]
  refine wpAnyH_take (i := 30) (oi := { dst := some 91, op := Go.Op.move (Go.Operand.tmp 90), type := 4, pos := "law.go:22", after := #[{ on := 29, ground := Go.Ground.data }, { on := 25, ground := Go.Ground.chain }], guard := none }) (v := ?_) rfl (by as_aux_lemma => kernel_rfl) (by as_aux_lemma => kernel_rfl) (by as_aux_lemma => kernel_rfl) (fun _ _ _ h => h) (Or.inl ⟨by rfl, ?_⟩) (by assumption) ?_
  rotate_left
  · intro w' hSw
    try dsimp only at hSw
    go_simp
    try with_reducible rfl
  try simp only [Act.put, List.setIfInBounds_toArray, List.set_cons_zero, List.set_cons_succ]
  refine wpAnyH_take (i := 31) (oi := { dst := some 92, op := Go.Op.move (Go.Operand.tmp 11), type := 22, pos := "law.go:22", after := #[{ on := 30, ground := Go.Ground.guard }], guard := some (30, true) }) (v := ?_) rfl (by as_aux_lemma => kernel_rfl) (by as_aux_lemma => kernel_rfl) (by as_aux_lemma => kernel_rfl) (fun _ _ _ h => h) (Or.inl ⟨by rfl, ?_⟩) (by assumption) ?_
  rotate_left
  · intro w' hSw
    try dsimp only at hSw
    go_simp
    try with_reducible rfl
  try simp only [Act.put, List.setIfInBounds_toArray, List.set_cons_zero, List.set_cons_succ]
  refine wpAnyH_take (i := 32) (oi := { dst := some 93, op := Go.Op.indexAddr 22 (Go.Operand.tmp 92) (Go.Operand.const (Go.Value.int Go.IntKind.i64 1)), type := 0, pos := "law.go:22", after := #[{ on := 31, ground := Go.Ground.data }, { on := 30, ground := Go.Ground.guard }], guard := some (30, true) }) (v := ?_) rfl (by as_aux_lemma => kernel_rfl) (by as_aux_lemma => kernel_rfl) (by as_aux_lemma => kernel_rfl) (fun _ _ _ h => h) (Or.inl ⟨by rfl, ?_⟩) (by assumption) ?_
  rotate_left
  · intro w' hSw
    try dsimp only at hSw
    go_simp
    try with_reducible rfl
  try simp only [Act.put, List.setIfInBounds_toArray, List.set_cons_zero, List.set_cons_succ]
  refine wpAnyH_take (i := 33) (oi := { dst := some 94, op := Go.Op.fieldAddr 48 (Go.Operand.tmp 93) 0, type := 0, pos := "law.go:22", after := #[{ on := 32, ground := Go.Ground.data }, { on := 30, ground := Go.Ground.guard }], guard := some (30, true) }) (v := ?_) rfl (by as_aux_lemma => kernel_rfl) (by as_aux_lemma => kernel_rfl) (by as_aux_lemma => kernel_rfl) (fun _ _ _ h => h) (Or.inl ⟨by rfl, ?_⟩) (by assumption) ?_
  rotate_left
  · intro w' hSw
    try dsimp only at hSw
    go_simp
    try with_reducible rfl
  try simp only [Act.put, List.setIfInBounds_toArray, List.set_cons_zero, List.set_cons_succ]
  refine wpAnyH_take (i := 34) (oi := { dst := some 95, op := Go.Op.load 9 (Go.Operand.tmp 94), type := 9, pos := "law.go:22", after := #[{ on := 33, ground := Go.Ground.data }, { on := 30, ground := Go.Ground.guard }], guard := some (30, true) }) (v := ?_) rfl (by as_aux_lemma => kernel_rfl) (by as_aux_lemma => kernel_rfl) (by as_aux_lemma => kernel_rfl) (fun _ _ _ h => h) (Or.inl ⟨by rfl, ?_⟩) (by assumption) ?_
  rotate_left
  · intro w' hSw
    try dsimp only at hSw
    go_simp
    try with_reducible rfl
  try simp only [Act.put, List.setIfInBounds_toArray, List.set_cons_zero, List.set_cons_succ]
  refine wpAnyH_take (i := 35) (oi := { dst := some 96, op := Go.Op.binOp Go.BinOp.eql 9 (Go.Operand.tmp 95) (Go.Operand.const (Go.Value.string { data := #[99] })) 9, type := 4, pos := "law.go:22", after := #[{ on := 34, ground := Go.Ground.data }, { on := 30, ground := Go.Ground.guard }], guard := some (30, true) }) (v := ?_) rfl (by as_aux_lemma => kernel_rfl) (by as_aux_lemma => kernel_rfl) (by as_aux_lemma => kernel_rfl) (fun _ _ _ h => h) (Or.inl ⟨by rfl, ?_⟩) (by assumption) ?_
  rotate_left
  · intro w' hSw
    try dsimp only at hSw
    go_simp
    try with_reducible rfl
  try simp only [Act.put, List.setIfInBounds_toArray, List.set_cons_zero, List.set_cons_succ]
  refine wpAnyH_take (i := 36) (oi := { dst := some 97, op := Go.Op.pick (Go.Operand.tmp 91) (Go.Operand.tmp 96) (Go.Operand.const (Go.Value.bool false)), type := 4, pos := "law.go:22", after := #[{ on := 30, ground := Go.Ground.data }, { on := 35, ground := Go.Ground.data }], guard := none }) (v := ?_) rfl (by as_aux_lemma => kernel_rfl) (by as_aux_lemma => kernel_rfl) (by as_aux_lemma => kernel_rfl) (fun _ _ _ h => h) (Or.inl ⟨by rfl, ?_⟩) (by assumption) ?_
  rotate_left
  · intro w' hSw
    try dsimp only at hSw
    go_simp
    try with_reducible rfl
  try simp only [Act.put, List.setIfInBounds_toArray, List.set_cons_zero, List.set_cons_succ]
  refine wpAnyH_take (i := 37) (oi := { dst := some 98, op := Go.Op.move (Go.Operand.tmp 97), type := 4, pos := "law.go:22", after := #[{ on := 36, ground := Go.Ground.data }, { on := 30, ground := Go.Ground.chain }], guard := none }) (v := ?_) rfl (by as_aux_lemma => kernel_rfl) (by as_aux_lemma => kernel_rfl) (by as_aux_lemma => kernel_rfl) (fun _ _ _ h => h) (Or.inl ⟨by rfl, ?_⟩) (by assumption) ?_
  rotate_left
  · intro w' hSw
    try dsimp only at hSw
    go_simp
    try with_reducible rfl
  try simp only [Act.put, List.setIfInBounds_toArray, List.set_cons_zero, List.set_cons_succ]
  refine wpAnyH_take (i := 38) (oi := { dst := some 99, op := Go.Op.move (Go.Operand.tmp 12), type := 22, pos := "law.go:22", after := #[{ on := 37, ground := Go.Ground.guard }], guard := some (37, true) }) (v := ?_) rfl (by as_aux_lemma => kernel_rfl) (by as_aux_lemma => kernel_rfl) (by as_aux_lemma => kernel_rfl) (fun _ _ _ h => h) (Or.inl ⟨by rfl, ?_⟩) (by assumption) ?_
  rotate_left
  · intro w' hSw
    try dsimp only at hSw
    go_simp
    try with_reducible rfl
  try simp only [Act.put, List.setIfInBounds_toArray, List.set_cons_zero, List.set_cons_succ]
  refine wpAnyH_take (i := 39) (oi := { dst := some 100, op := Go.Op.call { callee := Go.Callee.builtin Go.Builtin.len, args := #[Go.Operand.tmp 99], argTypes := #[22] }, type := 3, pos := "law.go:22", after := #[{ on := 38, ground := Go.Ground.data }, { on := 37, ground := Go.Ground.guard }], guard := some (37, true) }) (v := ?_) rfl (by as_aux_lemma => kernel_rfl) (by as_aux_lemma => kernel_rfl) (by as_aux_lemma => kernel_rfl) (fun _ _ _ h => h) (Or.inl ⟨by rfl, ?_⟩) (by assumption) ?_
  rotate_left
  · intro w' hSw
    try dsimp only at hSw
    go_simp
    try with_reducible rfl
  try simp only [Act.put, List.setIfInBounds_toArray, List.set_cons_zero, List.set_cons_succ]
  refine wpAnyH_take (i := 40) (oi := { dst := some 101, op := Go.Op.binOp Go.BinOp.eql 3 (Go.Operand.tmp 100) (Go.Operand.const (Go.Value.int Go.IntKind.i64 1)) 3, type := 4, pos := "law.go:22", after := #[{ on := 39, ground := Go.Ground.data }, { on := 37, ground := Go.Ground.guard }], guard := some (37, true) }) (v := ?_) rfl (by as_aux_lemma => kernel_rfl) (by as_aux_lemma => kernel_rfl) (by as_aux_lemma => kernel_rfl) (fun _ _ _ h => h) (Or.inl ⟨by rfl, ?_⟩) (by assumption) ?_
  rotate_left
  · intro w' hSw
    try dsimp only at hSw
    go_simp
    try with_reducible rfl
  try simp only [Act.put, List.setIfInBounds_toArray, List.set_cons_zero, List.set_cons_succ]
  refine wpAnyH_take (i := 41) (oi := { dst := some 102, op := Go.Op.pick (Go.Operand.tmp 98) (Go.Operand.tmp 101) (Go.Operand.const (Go.Value.bool false)), type := 4, pos := "law.go:22", after := #[{ on := 37, ground := Go.Ground.data }, { on := 40, ground := Go.Ground.data }], guard := none }) (v := ?_) rfl (by as_aux_lemma => kernel_rfl) (by as_aux_lemma => kernel_rfl) (by as_aux_lemma => kernel_rfl) (fun _ _ _ h => h) (Or.inl ⟨by rfl, ?_⟩) (by assumption) ?_
  rotate_left
  · intro w' hSw
    try dsimp only at hSw
    go_simp
    try with_reducible rfl
  try simp only [Act.put, List.setIfInBounds_toArray, List.set_cons_zero, List.set_cons_succ]
  refine wpAnyH_take (i := 42) (oi := { dst := some 103, op := Go.Op.move (Go.Operand.tmp 102), type := 4, pos := "law.go:22", after := #[{ on := 41, ground := Go.Ground.data }, { on := 37, ground := Go.Ground.chain }], guard := none }) (v := ?_) rfl (by as_aux_lemma => kernel_rfl) (by as_aux_lemma => kernel_rfl) (by as_aux_lemma => kernel_rfl) (fun _ _ _ h => h) (Or.inl ⟨by rfl, ?_⟩) (by assumption) ?_
  rotate_left
  · intro w' hSw
    try dsimp only at hSw
    go_simp
    try with_reducible rfl
  try simp only [Act.put, List.setIfInBounds_toArray, List.set_cons_zero, List.set_cons_succ]
  refine wpAnyH_take (i := 43) (oi := { dst := some 104, op := Go.Op.move (Go.Operand.tmp 12), type := 22, pos := "law.go:22", after := #[{ on := 42, ground := Go.Ground.guard }], guard := some (42, true) }) (v := ?_) rfl (by as_aux_lemma => kernel_rfl) (by as_aux_lemma => kernel_rfl) (by as_aux_lemma => kernel_rfl) (fun _ _ _ h => h) (Or.inl ⟨by rfl, ?_⟩) (by assumption) ?_
  rotate_left
  · intro w' hSw
    try dsimp only at hSw
    go_simp
    try with_reducible rfl
  try simp only [Act.put, List.setIfInBounds_toArray, List.set_cons_zero, List.set_cons_succ]
  refine wpAnyH_take (i := 44) (oi := { dst := some 105, op := Go.Op.indexAddr 22 (Go.Operand.tmp 104) (Go.Operand.const (Go.Value.int Go.IntKind.i64 0)), type := 0, pos := "law.go:22", after := #[{ on := 43, ground := Go.Ground.data }, { on := 42, ground := Go.Ground.guard }], guard := some (42, true) }) (v := ?_) rfl (by as_aux_lemma => kernel_rfl) (by as_aux_lemma => kernel_rfl) (by as_aux_lemma => kernel_rfl) (fun _ _ _ h => h) (Or.inl ⟨by rfl, ?_⟩) (by assumption) ?_
  rotate_left
  · intro w' hSw
    try dsimp only at hSw
    go_simp
    try with_reducible rfl
  try simp only [Act.put, List.setIfInBounds_toArray, List.set_cons_zero, List.set_cons_succ]
  refine wpAnyH_take (i := 45) (oi := { dst := some 106, op := Go.Op.fieldAddr 48 (Go.Operand.tmp 105) 0, type := 0, pos := "law.go:22", after := #[{ on := 44, ground := Go.Ground.data }, { on := 42, ground := Go.Ground.guard }], guard := some (42, true) }) (v := ?_) rfl (by as_aux_lemma => kernel_rfl) (by as_aux_lemma => kernel_rfl) (by as_aux_lemma => kernel_rfl) (fun _ _ _ h => h) (Or.inl ⟨by rfl, ?_⟩) (by assumption) ?_
  rotate_left
  · intro w' hSw
    try dsimp only at hSw
    go_simp
    try with_reducible rfl
  try simp only [Act.put, List.setIfInBounds_toArray, List.set_cons_zero, List.set_cons_succ]
  refine wpAnyH_take (i := 46) (oi := { dst := some 107, op := Go.Op.load 9 (Go.Operand.tmp 106), type := 9, pos := "law.go:22", after := #[{ on := 45, ground := Go.Ground.data }, { on := 42, ground := Go.Ground.guard }], guard := some (42, true) }) (v := ?_) rfl (by as_aux_lemma => kernel_rfl) (by as_aux_lemma => kernel_rfl) (by as_aux_lemma => kernel_rfl) (fun _ _ _ h => h) (Or.inl ⟨by rfl, ?_⟩) (by assumption) ?_
  rotate_left
  · intro w' hSw
    try dsimp only at hSw
    go_simp
    try with_reducible rfl
  try simp only [Act.put, List.setIfInBounds_toArray, List.set_cons_zero, List.set_cons_succ]
  refine wpAnyH_take (i := 47) (oi := { dst := some 108, op := Go.Op.binOp Go.BinOp.eql 9 (Go.Operand.tmp 107) (Go.Operand.const (Go.Value.string { data := #[97, 97] })) 9, type := 4, pos := "law.go:22", after := #[{ on := 46, ground := Go.Ground.data }, { on := 42, ground := Go.Ground.guard }], guard := some (42, true) }) (v := ?_) rfl (by as_aux_lemma => kernel_rfl) (by as_aux_lemma => kernel_rfl) (by as_aux_lemma => kernel_rfl) (fun _ _ _ h => h) (Or.inl ⟨by rfl, ?_⟩) (by assumption) ?_
  rotate_left
  · intro w' hSw
    try dsimp only at hSw
    go_simp
    try with_reducible rfl
  try simp only [Act.put, List.setIfInBounds_toArray, List.set_cons_zero, List.set_cons_succ]
  refine wpAnyH_take (i := 48) (oi := { dst := some 109, op := Go.Op.pick (Go.Operand.tmp 103) (Go.Operand.tmp 108) (Go.Operand.const (Go.Value.bool false)), type := 4, pos := "law.go:22", after := #[{ on := 42, ground := Go.Ground.data }, { on := 47, ground := Go.Ground.data }], guard := none }) (v := ?_) rfl (by as_aux_lemma => kernel_rfl) (by as_aux_lemma => kernel_rfl) (by as_aux_lemma => kernel_rfl) (fun _ _ _ h => h) (Or.inl ⟨by rfl, ?_⟩) (by assumption) ?_
  rotate_left
  · intro w' hSw
    try dsimp only at hSw
    go_simp
    try with_reducible rfl
  try simp only [Act.put, List.setIfInBounds_toArray, List.set_cons_zero, List.set_cons_succ]
  refine wpAnyH_take (i := 49) (oi := { dst := some 110, op := Go.Op.move (Go.Operand.tmp 109), type := 4, pos := "law.go:22", after := #[{ on := 48, ground := Go.Ground.data }, { on := 42, ground := Go.Ground.chain }], guard := none }) (v := ?_) rfl (by as_aux_lemma => kernel_rfl) (by as_aux_lemma => kernel_rfl) (by as_aux_lemma => kernel_rfl) (fun _ _ _ h => h) (Or.inl ⟨by rfl, ?_⟩) (by assumption) ?_
  rotate_left
  · intro w' hSw
    try dsimp only at hSw
    go_simp
    try with_reducible rfl
  try simp only [Act.put, List.setIfInBounds_toArray, List.set_cons_zero, List.set_cons_succ]
  refine wpAnyH_take (i := 50) (oi := { dst := some 111, op := Go.Op.load 35 (Go.Operand.tmp 13), type := 35, pos := "law.go:22", after := #[{ on := 49, ground := Go.Ground.guard }], guard := some (49, true) }) (v := ?_) rfl (by as_aux_lemma => kernel_rfl) (by as_aux_lemma => kernel_rfl) (by as_aux_lemma => kernel_rfl) (fun _ _ _ h => h) (Or.inl ⟨by rfl, ?_⟩) (by assumption) ?_
  rotate_left
  · intro w' hSw
    try dsimp only at hSw
    go_simp
    try with_reducible rfl
  try simp only [Act.put, List.setIfInBounds_toArray, List.set_cons_zero, List.set_cons_succ]
  refine wpAnyH_take (i := 51) (oi := { dst := some 112, op := Go.Op.load 35 (Go.Operand.tmp 1), type := 35, pos := "law.go:22", after := #[{ on := 49, ground := Go.Ground.guard }], guard := some (49, true) }) (v := ?_) rfl (by as_aux_lemma => kernel_rfl) (by as_aux_lemma => kernel_rfl) (by as_aux_lemma => kernel_rfl) (fun _ _ _ h => h) (Or.inl ⟨by rfl, ?_⟩) (by assumption) ?_
  rotate_left
  · intro w' hSw
    try dsimp only at hSw
    go_simp
    try with_reducible rfl
  try simp only [Act.put, List.setIfInBounds_toArray, List.set_cons_zero, List.set_cons_succ]
  refine wpAnyH_take (i := 52) (oi := { dst := some 113, op := Go.Op.binOp Go.BinOp.eql 35 (Go.Operand.tmp 111) (Go.Operand.tmp 112) 35, type := 4, pos := "law.go:22", after := #[{ on := 50, ground := Go.Ground.data }, { on := 51, ground := Go.Ground.data }, { on := 49, ground := Go.Ground.guard }], guard := some (49, true) }) (v := ?_) rfl (by as_aux_lemma => kernel_rfl) (by as_aux_lemma => kernel_rfl) (by as_aux_lemma => kernel_rfl) (fun _ _ _ h => h) (Or.inl ⟨by rfl, ?_⟩) (by assumption) ?_
  rotate_left
  · intro w' hSw
    try dsimp only at hSw
    go_simp
    try with_reducible rfl
  try simp only [Act.put, List.setIfInBounds_toArray, List.set_cons_zero, List.set_cons_succ]
  refine wpAnyH_take (i := 53) (oi := { dst := some 114, op := Go.Op.pick (Go.Operand.tmp 110) (Go.Operand.tmp 113) (Go.Operand.const (Go.Value.bool false)), type := 4, pos := "law.go:22", after := #[{ on := 49, ground := Go.Ground.data }, { on := 52, ground := Go.Ground.data }], guard := none }) (v := ?_) rfl (by as_aux_lemma => kernel_rfl) (by as_aux_lemma => kernel_rfl) (by as_aux_lemma => kernel_rfl) (fun _ _ _ h => h) (Or.inl ⟨by rfl, ?_⟩) (by assumption) ?_
  rotate_left
  · intro w' hSw
    try dsimp only at hSw
    go_simp
    try with_reducible rfl
  try simp only [Act.put, List.setIfInBounds_toArray, List.set_cons_zero, List.set_cons_succ]
  refine wpAnyH_take (i := 54) (oi := { dst := some 115, op := Go.Op.move (Go.Operand.tmp 114), type := 4, pos := "law.go:22", after := #[{ on := 53, ground := Go.Ground.data }, { on := 49, ground := Go.Ground.chain }], guard := none }) (v := ?_) rfl (by as_aux_lemma => kernel_rfl) (by as_aux_lemma => kernel_rfl) (by as_aux_lemma => kernel_rfl) (fun _ _ _ h => h) (Or.inl ⟨by rfl, ?_⟩) (by assumption) ?_
  rotate_left
  · intro w' hSw
    try dsimp only at hSw
    go_simp
    try with_reducible rfl
  try simp only [Act.put, List.setIfInBounds_toArray, List.set_cons_zero, List.set_cons_succ]
  refine wpAnyH_take (i := 55) (oi := { dst := some 116, op := Go.Op.move (Go.Operand.tmp 14), type := 4, pos := "law.go:22", after := #[{ on := 54, ground := Go.Ground.guard }], guard := some (54, true) }) (v := ?_) rfl (by as_aux_lemma => kernel_rfl) (by as_aux_lemma => kernel_rfl) (by as_aux_lemma => kernel_rfl) (fun _ _ _ h => h) (Or.inl ⟨by rfl, ?_⟩) (by assumption) ?_
  rotate_left
  · intro w' hSw
    try dsimp only at hSw
    go_simp
    try with_reducible rfl
  try simp only [Act.put, List.setIfInBounds_toArray, List.set_cons_zero, List.set_cons_succ]
  refine wpAnyH_take (i := 56) (oi := { dst := some 117, op := Go.Op.pick (Go.Operand.tmp 115) (Go.Operand.tmp 116) (Go.Operand.const (Go.Value.bool false)), type := 4, pos := "law.go:22", after := #[{ on := 54, ground := Go.Ground.data }, { on := 55, ground := Go.Ground.data }], guard := none }) (v := ?_) rfl (by as_aux_lemma => kernel_rfl) (by as_aux_lemma => kernel_rfl) (by as_aux_lemma => kernel_rfl) (fun _ _ _ h => h) (Or.inl ⟨by rfl, ?_⟩) (by assumption) ?_
  rotate_left
  · intro w' hSw
    try dsimp only at hSw
    go_simp
    try with_reducible rfl
  try simp only [Act.put, List.setIfInBounds_toArray, List.set_cons_zero, List.set_cons_succ]
  refine wpAnyH_take (i := 57) (oi := { dst := some 118, op := Go.Op.move (Go.Operand.tmp 117), type := 4, pos := "law.go:22", after := #[{ on := 56, ground := Go.Ground.data }, { on := 54, ground := Go.Ground.chain }], guard := none }) (v := ?_) rfl (by as_aux_lemma => kernel_rfl) (by as_aux_lemma => kernel_rfl) (by as_aux_lemma => kernel_rfl) (fun _ _ _ h => h) (Or.inl ⟨by rfl, ?_⟩) (by assumption) ?_
  rotate_left
  · intro w' hSw
    try dsimp only at hSw
    go_simp
    try with_reducible rfl
  try simp only [Act.put, List.setIfInBounds_toArray, List.set_cons_zero, List.set_cons_succ]
  refine wpAnyH_take (i := 58) (oi := { dst := some 119, op := Go.Op.move (Go.Operand.tmp 16), type := 4, pos := "law.go:22", after := #[{ on := 57, ground := Go.Ground.guard }], guard := some (57, true) }) (v := ?_) rfl (by as_aux_lemma => kernel_rfl) (by as_aux_lemma => kernel_rfl) (by as_aux_lemma => kernel_rfl) (fun _ _ _ h => h) (Or.inl ⟨by rfl, ?_⟩) (by assumption) ?_
  rotate_left
  · intro w' hSw
    try dsimp only at hSw
    go_simp
    try with_reducible rfl
  try simp only [Act.put, List.setIfInBounds_toArray, List.set_cons_zero, List.set_cons_succ]
  refine wpAnyH_take (i := 59) (oi := { dst := some 120, op := Go.Op.unOp Go.UnOp.not 4 (Go.Operand.tmp 119), type := 4, pos := "law.go:22", after := #[{ on := 58, ground := Go.Ground.data }, { on := 57, ground := Go.Ground.guard }], guard := some (57, true) }) (v := ?_) rfl (by as_aux_lemma => kernel_rfl) (by as_aux_lemma => kernel_rfl) (by as_aux_lemma => kernel_rfl) (fun _ _ _ h => h) (Or.inl ⟨by rfl, ?_⟩) (by assumption) ?_
  rotate_left
  · intro w' hSw
    try dsimp only at hSw
    go_simp
    try with_reducible rfl
  try simp only [Act.put, List.setIfInBounds_toArray, List.set_cons_zero, List.set_cons_succ]
  refine wpAnyH_take (i := 60) (oi := { dst := some 121, op := Go.Op.pick (Go.Operand.tmp 118) (Go.Operand.tmp 120) (Go.Operand.const (Go.Value.bool false)), type := 4, pos := "law.go:22", after := #[{ on := 57, ground := Go.Ground.data }, { on := 59, ground := Go.Ground.data }], guard := none }) (v := ?_) rfl (by as_aux_lemma => kernel_rfl) (by as_aux_lemma => kernel_rfl) (by as_aux_lemma => kernel_rfl) (fun _ _ _ h => h) (Or.inl ⟨by rfl, ?_⟩) (by assumption) ?_
  rotate_left
  · intro w' hSw
    try dsimp only at hSw
    go_simp
    try with_reducible rfl
  try simp only [Act.put, List.setIfInBounds_toArray, List.set_cons_zero, List.set_cons_succ]
  refine wpAnyH_take (i := 61) (oi := { dst := some 122, op := Go.Op.move (Go.Operand.tmp 121), type := 4, pos := "law.go:22", after := #[{ on := 60, ground := Go.Ground.data }, { on := 57, ground := Go.Ground.chain }], guard := none }) (v := ?_) rfl (by as_aux_lemma => kernel_rfl) (by as_aux_lemma => kernel_rfl) (by as_aux_lemma => kernel_rfl) (fun _ _ _ h => h) (Or.inl ⟨by rfl, ?_⟩) (by assumption) ?_
  rotate_left
  · intro w' hSw
    try dsimp only at hSw
    go_simp
    try with_reducible rfl
  try simp only [Act.put, List.setIfInBounds_toArray, List.set_cons_zero, List.set_cons_succ]
  refine wpAnyH_take (i := 62) (oi := { dst := some 123, op := Go.Op.move (Go.Operand.tmp 17), type := 42, pos := "law.go:22", after := #[{ on := 61, ground := Go.Ground.guard }], guard := some (61, true) }) (v := ?_) rfl (by as_aux_lemma => kernel_rfl) (by as_aux_lemma => kernel_rfl) (by as_aux_lemma => kernel_rfl) (fun _ _ _ h => h) (Or.inl ⟨by rfl, ?_⟩) (by assumption) ?_
  rotate_left
  · intro w' hSw
    try dsimp only at hSw
    go_simp
    try with_reducible rfl
  try simp only [Act.put, List.setIfInBounds_toArray, List.set_cons_zero, List.set_cons_succ]
  refine wpAnyH_take (i := 63) (oi := { dst := some 124, op := Go.Op.call { callee := Go.Callee.builtin Go.Builtin.len, args := #[Go.Operand.tmp 123], argTypes := #[42] }, type := 3, pos := "law.go:22", after := #[{ on := 62, ground := Go.Ground.data }, { on := 61, ground := Go.Ground.guard }], guard := some (61, true) }) (v := ?_) rfl (by as_aux_lemma => kernel_rfl) (by as_aux_lemma => kernel_rfl) (by as_aux_lemma => kernel_rfl) (fun _ _ _ h => h) (Or.inl ⟨by rfl, ?_⟩) (by assumption) ?_
  rotate_left
  · intro w' hSw
    try dsimp only at hSw
    go_simp
    try with_reducible rfl
  try simp only [Act.put, List.setIfInBounds_toArray, List.set_cons_zero, List.set_cons_succ]
  refine wpAnyH_take (i := 64) (oi := { dst := some 125, op := Go.Op.binOp Go.BinOp.eql 3 (Go.Operand.tmp 124) (Go.Operand.const (Go.Value.int Go.IntKind.i64 1)) 3, type := 4, pos := "law.go:22", after := #[{ on := 63, ground := Go.Ground.data }, { on := 61, ground := Go.Ground.guard }], guard := some (61, true) }) (v := ?_) rfl (by as_aux_lemma => kernel_rfl) (by as_aux_lemma => kernel_rfl) (by as_aux_lemma => kernel_rfl) (fun _ _ _ h => h) (Or.inl ⟨by rfl, ?_⟩) (by assumption) ?_
  rotate_left
  · intro w' hSw
    try dsimp only at hSw
    go_simp
    try with_reducible rfl
  try simp only [Act.put, List.setIfInBounds_toArray, List.set_cons_zero, List.set_cons_succ]
  refine wpAnyH_take (i := 65) (oi := { dst := some 126, op := Go.Op.pick (Go.Operand.tmp 122) (Go.Operand.tmp 125) (Go.Operand.const (Go.Value.bool false)), type := 4, pos := "law.go:22", after := #[{ on := 61, ground := Go.Ground.data }, { on := 64, ground := Go.Ground.data }], guard := none }) (v := ?_) rfl (by as_aux_lemma => kernel_rfl) (by as_aux_lemma => kernel_rfl) (by as_aux_lemma => kernel_rfl) (fun _ _ _ h => h) (Or.inl ⟨by rfl, ?_⟩) (by assumption) ?_
  rotate_left
  · intro w' hSw
    try dsimp only at hSw
    go_simp
    try with_reducible rfl
  try simp only [Act.put, List.setIfInBounds_toArray, List.set_cons_zero, List.set_cons_succ]
  refine wpAnyH_take (i := 66) (oi := { dst := some 127, op := Go.Op.move (Go.Operand.tmp 126), type := 4, pos := "law.go:22", after := #[{ on := 65, ground := Go.Ground.data }, { on := 61, ground := Go.Ground.chain }], guard := none }) (v := ?_) rfl (by as_aux_lemma => kernel_rfl) (by as_aux_lemma => kernel_rfl) (by as_aux_lemma => kernel_rfl) (fun _ _ _ h => h) (Or.inl ⟨by rfl, ?_⟩) (by assumption) ?_
  rotate_left
  · intro w' hSw
    try dsimp only at hSw
    go_simp
    try with_reducible rfl
  try simp only [Act.put, List.setIfInBounds_toArray, List.set_cons_zero, List.set_cons_succ]
  refine wpAnyH_take (i := 67) (oi := { dst := some 128, op := Go.Op.move (Go.Operand.tmp 17), type := 42, pos := "law.go:22", after := #[{ on := 66, ground := Go.Ground.guard }], guard := some (66, true) }) (v := ?_) rfl (by as_aux_lemma => kernel_rfl) (by as_aux_lemma => kernel_rfl) (by as_aux_lemma => kernel_rfl) (fun _ _ _ h => h) (Or.inl ⟨by rfl, ?_⟩) (by assumption) ?_
  rotate_left
  · intro w' hSw
    try dsimp only at hSw
    go_simp
    try with_reducible rfl
  try simp only [Act.put, List.setIfInBounds_toArray, List.set_cons_zero, List.set_cons_succ]
  refine wpAnyH_take (i := 68) (oi := { dst := some 129, op := Go.Op.indexAddr 42 (Go.Operand.tmp 128) (Go.Operand.const (Go.Value.int Go.IntKind.i64 0)), type := 0, pos := "law.go:22", after := #[{ on := 67, ground := Go.Ground.data }, { on := 66, ground := Go.Ground.guard }], guard := some (66, true) }) (v := ?_) rfl (by as_aux_lemma => kernel_rfl) (by as_aux_lemma => kernel_rfl) (by as_aux_lemma => kernel_rfl) (fun _ _ _ h => h) (Or.inl ⟨by rfl, ?_⟩) (by assumption) ?_
  rotate_left
  · intro w' hSw
    try dsimp only at hSw
    go_simp
    try with_reducible rfl
  try simp only [Act.put, List.setIfInBounds_toArray, List.set_cons_zero, List.set_cons_succ]
  refine wpAnyH_take (i := 69) (oi := { dst := some 130, op := Go.Op.load 37 (Go.Operand.tmp 129), type := 37, pos := "law.go:22", after := #[{ on := 68, ground := Go.Ground.data }, { on := 66, ground := Go.Ground.guard }], guard := some (66, true) }) (v := ?_) rfl (by as_aux_lemma => kernel_rfl) (by as_aux_lemma => kernel_rfl) (by as_aux_lemma => kernel_rfl) (fun _ _ _ h => h) (Or.inl ⟨by rfl, ?_⟩) (by assumption) ?_
  rotate_left
  · intro w' hSw
    try dsimp only at hSw
    go_simp
    try with_reducible rfl
  try simp only [Act.put, List.setIfInBounds_toArray, List.set_cons_zero, List.set_cons_succ]
  refine wpAnyH_take (i := 70) (oi := { dst := some 131, op := Go.Op.load 35 (Go.Operand.tmp 1), type := 35, pos := "law.go:22", after := #[{ on := 66, ground := Go.Ground.guard }], guard := some (66, true) }) (v := ?_) rfl (by as_aux_lemma => kernel_rfl) (by as_aux_lemma => kernel_rfl) (by as_aux_lemma => kernel_rfl) (fun _ _ _ h => h) (Or.inl ⟨by rfl, ?_⟩) (by assumption) ?_
  rotate_left
  · intro w' hSw
    try dsimp only at hSw
    go_simp
    try with_reducible rfl
  try simp only [Act.put, List.setIfInBounds_toArray, List.set_cons_zero, List.set_cons_succ]
  refine wpAnyH_take (i := 71) (oi := { dst := some 132, op := Go.Op.build 37 #[(0, Go.Operand.const (Go.Value.string { data := #[99] })), (1, Go.Operand.const (Go.Value.bool true)), (2, Go.Operand.tmp 131)], type := 37, pos := "law.go:22", after := #[{ on := 70, ground := Go.Ground.data }, { on := 66, ground := Go.Ground.guard }], guard := some (66, true) }) (v := ?_) rfl (by as_aux_lemma => kernel_rfl) (by as_aux_lemma => kernel_rfl) (by as_aux_lemma => kernel_rfl) (fun _ _ _ h => h) (Or.inl ⟨by rfl, ?_⟩) (by assumption) ?_
  rotate_left
  · intro w' hSw
    try dsimp only at hSw
    go_simp
    try with_reducible rfl
  try simp only [Act.put, List.setIfInBounds_toArray, List.set_cons_zero, List.set_cons_succ]
  refine wpAnyH_take (i := 72) (oi := { dst := some 133, op := Go.Op.binOp Go.BinOp.eql 37 (Go.Operand.tmp 130) (Go.Operand.tmp 132) 37, type := 4, pos := "law.go:22", after := #[{ on := 69, ground := Go.Ground.data }, { on := 71, ground := Go.Ground.data }, { on := 66, ground := Go.Ground.guard }], guard := some (66, true) }) (v := ?_) rfl (by as_aux_lemma => kernel_rfl) (by as_aux_lemma => kernel_rfl) (by as_aux_lemma => kernel_rfl) (fun _ _ _ h => h) (Or.inl ⟨by rfl, ?_⟩) (by assumption) ?_
  rotate_left
  · intro w' hSw
    try dsimp only at hSw
    go_simp
    try with_reducible rfl
  try simp only [Act.put, List.setIfInBounds_toArray, List.set_cons_zero, List.set_cons_succ]
  refine wpAnyH_take (i := 73) (oi := { dst := some 134, op := Go.Op.pick (Go.Operand.tmp 127) (Go.Operand.tmp 133) (Go.Operand.const (Go.Value.bool false)), type := 4, pos := "law.go:22", after := #[{ on := 66, ground := Go.Ground.data }, { on := 72, ground := Go.Ground.data }], guard := none }) (v := ?_) rfl (by as_aux_lemma => kernel_rfl) (by as_aux_lemma => kernel_rfl) (by as_aux_lemma => kernel_rfl) (fun _ _ _ h => h) (Or.inl ⟨by rfl, ?_⟩) (by assumption) ?_
  rotate_left
  · intro w' hSw
    try dsimp only at hSw
    go_simp
    try with_reducible rfl
  try simp only [Act.put, List.setIfInBounds_toArray, List.set_cons_zero, List.set_cons_succ]
  refine wpAnyH_take (i := 74) (oi := { dst := some 135, op := Go.Op.move (Go.Operand.tmp 134), type := 4, pos := "law.go:22", after := #[{ on := 73, ground := Go.Ground.data }, { on := 66, ground := Go.Ground.chain }], guard := none }) (v := ?_) rfl (by as_aux_lemma => kernel_rfl) (by as_aux_lemma => kernel_rfl) (by as_aux_lemma => kernel_rfl) (fun _ _ _ h => h) (Or.inl ⟨by rfl, ?_⟩) (by assumption) ?_
  rotate_left
  · intro w' hSw
    try dsimp only at hSw
    go_simp
    try with_reducible rfl
  try simp only [Act.put, List.setIfInBounds_toArray, List.set_cons_zero, List.set_cons_succ]
  refine wpAnyH_ready (rs := [75]) (by as_aux_lemma => kernel_rfl) (by simp) ?_
  refine AllReadyH.cons (o := { dst := some 136, op := Go.Op.call { callee := Go.Callee.value (Go.Operand.func 21), args := #[Go.Operand.const (Go.Value.slice none 0 0)], argTypes := #[22] }, type := 27, pos := "law.go:22", after := #[{ on := 74, ground := Go.Ground.chain }, { on := 74, ground := Go.Ground.guard }], guard := some (74, true) }) rfl (fun K hK => ?_) AllReadyH.nil
  go_simp
  refine (HD0.out _).mono ?_
  rintro e w10 ⟨rfl, hb10⟩
  have D10 := Lib.hid (below2' D9.out hb10)
  have O10 := Lib.hid (O9.out.later hb10)
  go_wp2_with fail
  refine hK.out _ _ ?_ (fun hHeld2 => ?_)
  · exact keep26 hb10 hHeld
  clear hK K hHeld
  have hHeld := hHeld2
  clear hHeld2 hb10
  try simp only [Act.put, List.setIfInBounds_toArray, List.set_cons_zero, List.set_cons_succ]
  refine wpAnyH_take (i := 76) (oi := { dst := some 137, op := Go.Op.binOp Go.BinOp.eql 27 (Go.Operand.tmp 136) (Go.Operand.const (Go.Value.int Go.IntKind.u64 12638153115695167455)) 27, type := 4, pos := "law.go:22", after := #[{ on := 75, ground := Go.Ground.data }, { on := 74, ground := Go.Ground.guard }], guard := some (74, true) }) (v := ?_) rfl (by as_aux_lemma => kernel_rfl) (by as_aux_lemma => kernel_rfl) (by as_aux_lemma => kernel_rfl) (fun _ _ _ h => h) (Or.inl ⟨by rfl, ?_⟩) (by assumption) ?_
  rotate_left
  · intro w' hSw
    try dsimp only at hSw
    go_simp
    try with_reducible rfl
  try simp only [Act.put, List.setIfInBounds_toArray, List.set_cons_zero, List.set_cons_succ]
  refine wpAnyH_take (i := 77) (oi := { dst := some 138, op := Go.Op.pick (Go.Operand.tmp 135) (Go.Operand.tmp 137) (Go.Operand.const (Go.Value.bool false)), type := 4, pos := "law.go:22", after := #[{ on := 74, ground := Go.Ground.data }, { on := 76, ground := Go.Ground.data }], guard := none }) (v := ?_) rfl (by as_aux_lemma => kernel_rfl) (by as_aux_lemma => kernel_rfl) (by as_aux_lemma => kernel_rfl) (fun _ _ _ h => h) (Or.inl ⟨by rfl, ?_⟩) (by assumption) ?_
  rotate_left
  · intro w' hSw
    try dsimp only at hSw
    go_simp
    try with_reducible rfl
  try simp only [Act.put, List.setIfInBounds_toArray, List.set_cons_zero, List.set_cons_succ]
  refine wpAnyH_take (i := 78) (oi := { dst := some 139, op := Go.Op.move (Go.Operand.tmp 138), type := 4, pos := "law.go:22", after := #[{ on := 77, ground := Go.Ground.data }, { on := 75, ground := Go.Ground.chain }], guard := none }) (v := ?_) rfl (by as_aux_lemma => kernel_rfl) (by as_aux_lemma => kernel_rfl) (by as_aux_lemma => kernel_rfl) (fun _ _ _ h => h) (Or.inl ⟨by rfl, ?_⟩) (by assumption) ?_
  rotate_left
  · intro w' hSw
    try dsimp only at hSw
    go_simp
    try with_reducible rfl
  try simp only [Act.put, List.setIfInBounds_toArray, List.set_cons_zero, List.set_cons_succ]
  refine wpAnyH_take (i := 79) (oi := { dst := some 140, op := Go.Op.move (Go.Operand.tmp 2), type := 22, pos := "law.go:22", after := #[{ on := 78, ground := Go.Ground.guard }], guard := some (78, true) }) (v := ?_) rfl (by as_aux_lemma => kernel_rfl) (by as_aux_lemma => kernel_rfl) (by as_aux_lemma => kernel_rfl) (fun _ _ _ h => h) (Or.inl ⟨by rfl, ?_⟩) (by assumption) ?_
  rotate_left
  · intro w' hSw
    try dsimp only at hSw
    go_simp
    try with_reducible rfl
  try simp only [Act.put, List.setIfInBounds_toArray, List.set_cons_zero, List.set_cons_succ]
  refine wpAnyH_take (i := 81) (oi := { dst := some 142, op := Go.Op.move (Go.Operand.tmp 12), type := 22, pos := "law.go:22", after := #[{ on := 78, ground := Go.Ground.guard }], guard := some (78, true) }) (v := ?_) rfl (by as_aux_lemma => kernel_rfl) (by as_aux_lemma => kernel_rfl) (by as_aux_lemma => kernel_rfl) (fun _ _ _ h => h) (Or.inl ⟨by rfl, ?_⟩) (by assumption) ?_
  rotate_left
  · intro w' hSw
    try dsimp only at hSw
    go_simp
    try with_reducible rfl
  try simp only [Act.put, List.setIfInBounds_toArray, List.set_cons_zero, List.set_cons_succ]
  refine wpAnyH_ready (rs := [80]) (by as_aux_lemma => kernel_rfl) (by simp) ?_
  refine AllReadyH.cons (o := { dst := some 141, op := Go.Op.call { callee := Go.Callee.value (Go.Operand.func 21), args := #[Go.Operand.tmp 140], argTypes := #[22] }, type := 27, pos := "law.go:22", after := #[{ on := 79, ground := Go.Ground.data }, { on := 78, ground := Go.Ground.chain }, { on := 78, ground := Go.Ground.guard }], guard := some (78, true) }) rfl (fun K hK => ?_) AllReadyH.nil
  go_simp
  refine (HD1.out (hE.out.later D10.out)).mono ?_
  rintro e w11 ⟨rfl, hb11⟩
  have D11 : Hid (Below W0.heap.size W0 w11) := Lib.hid (below2' D10.out hb11)
  have O11 := Lib.hid (O10.out.later hb11)
  go_wp2_with fail
  refine hK.out _ _ ?_ (fun hHeld2 => ?_)
  · exact keep26 hb11 hHeld
  clear hK K hHeld
  have hHeld := hHeld2
  clear hHeld2 hb11
  try simp only [Act.put, List.setIfInBounds_toArray, List.set_cons_zero, List.set_cons_succ]
  refine wpAnyH_ready (rs := [82]) (by as_aux_lemma => kernel_rfl) (by simp) ?_
  refine AllReadyH.cons (o := { dst := some 143, op := Go.Op.call { callee := Go.Callee.value (Go.Operand.func 21), args := #[Go.Operand.tmp 142], argTypes := #[22] }, type := 27, pos := "law.go:22", after := #[{ on := 81, ground := Go.Ground.data }, { on := 80, ground := Go.Ground.chain }, { on := 78, ground := Go.Ground.guard }], guard := some (78, true) }) rfl (fun K hK => ?_) AllReadyH.nil
  go_simp
  refine (HD2.out O11.out.tab).mono ?_
  rintro e w12 ⟨rfl, hb12⟩
  have D12 : Hid (Below W0.heap.size W0 w12) := Lib.hid (below2' D11.out hb12)
  go_wp2_with fail
  refine hK.out _ _ ?_ (fun hHeld2 => ?_)
  · exact keep26 hb12 hHeld
  clear hK K hHeld
  have hHeld := hHeld2
  clear hHeld2 hb12
  try simp only [Act.put, List.setIfInBounds_toArray, List.set_cons_zero, List.set_cons_succ]
  refine wpAnyH_take (i := 83) (oi := { dst := some 144, op := Go.Op.binOp Go.BinOp.neq 27 (Go.Operand.tmp 141) (Go.Operand.tmp 143) 27, type := 4, pos := "law.go:22", after := #[{ on := 80, ground := Go.Ground.data }, { on := 82, ground := Go.Ground.data }, { on := 78, ground := Go.Ground.guard }], guard := some (78, true) }) (v := ?_) rfl (by as_aux_lemma => kernel_rfl) (by as_aux_lemma => kernel_rfl) (by as_aux_lemma => kernel_rfl) (fun _ _ _ h => h) (Or.inl ⟨by rfl, ?_⟩) (by assumption) ?_
  rotate_left
  · intro w' hSw
    try dsimp only at hSw
    go_simp
    try with_reducible rfl
  try simp only [Act.put, List.setIfInBounds_toArray, List.set_cons_zero, List.set_cons_succ]
  refine wpAnyH_take (i := 84) (oi := { dst := some 145, op := Go.Op.pick (Go.Operand.tmp 139) (Go.Operand.tmp 144) (Go.Operand.const (Go.Value.bool false)), type := 4, pos := "law.go:22", after := #[{ on := 78, ground := Go.Ground.data }, { on := 83, ground := Go.Ground.data }], guard := none }) (v := ?_) rfl (by as_aux_lemma => kernel_rfl) (by as_aux_lemma => kernel_rfl) (by as_aux_lemma => kernel_rfl) (fun _ _ _ h => h) (Or.inl ⟨by rfl, ?_⟩) (by assumption) ?_
  rotate_left
  · intro w' hSw
    try dsimp only at hSw
    go_simp
    try with_reducible rfl
  try simp only [Act.put, List.setIfInBounds_toArray, List.set_cons_zero, List.set_cons_succ]
  refine wpAnyH_take (i := 85) (oi := { dst := some 146, op := Go.Op.move (Go.Operand.tmp 145), type := 4, pos := "law.go:22", after := #[{ on := 84, ground := Go.Ground.data }, { on := 82, ground := Go.Ground.chain }], guard := none }) (v := ?_) rfl (by as_aux_lemma => kernel_rfl) (by as_aux_lemma => kernel_rfl) (by as_aux_lemma => kernel_rfl) (fun _ _ _ h => h) (Or.inl ⟨by rfl, ?_⟩) (by assumption) ?_
  rotate_left
  · intro w' hSw
    try dsimp only at hSw
    go_simp
    try with_reducible rfl
  try simp only [Act.put, List.setIfInBounds_toArray, List.set_cons_zero, List.set_cons_succ]
  refine wpAnyH_take (i := 86) (oi := { dst := some 147, op := Go.Op.move (Go.Operand.tmp 2), type := 22, pos := "law.go:22", after := #[{ on := 85, ground := Go.Ground.guard }], guard := some (85, true) }) (v := ?_) rfl (by as_aux_lemma => kernel_rfl) (by as_aux_lemma => kernel_rfl) (by as_aux_lemma => kernel_rfl) (fun _ _ _ h => h) (Or.inl ⟨by rfl, ?_⟩) (by assumption) ?_
  rotate_left
  · intro w' hSw
    try dsimp only at hSw
    go_simp
    try with_reducible rfl
  try simp only [Act.put, List.setIfInBounds_toArray, List.set_cons_zero, List.set_cons_succ]
  refine wpAnyH_ready (rs := [87]) (by as_aux_lemma => kernel_rfl) (by simp) ?_
  refine AllReadyH.cons (o := { dst := some 148, op := Go.Op.call { callee := Go.Callee.value (Go.Operand.func 19), args := #[Go.Operand.tmp 147], argTypes := #[22] }, type := 4, pos := "law.go:22", after := #[{ on := 86, ground := Go.Ground.data }, { on := 85, ground := Go.Ground.chain }, { on := 85, ground := Go.Ground.guard }], guard := some (85, true) }) rfl (fun K hK => ?_) AllReadyH.nil
  go_simp
  refine (dimay_eq (hE.out.later D12.out) short_lv lv10).mono ?_
  rintro e w13 ⟨rfl, hb13⟩
  have D13 : Hid (Below W0.heap.size W0 w13) := Lib.hid (below2' D12.out hb13)
  go_wp2_with fail
  refine hK.out _ _ ?_ (fun hHeld2 => ?_)
  · exact keep26 hb13 hHeld
  clear hK K hHeld
  have hHeld := hHeld2
  clear hHeld2 hb13
  try simp only [Act.put, List.setIfInBounds_toArray, List.set_cons_zero, List.set_cons_succ]
  refine wpAnyH_take (i := 88) (oi := { dst := some 149, op := Go.Op.pick (Go.Operand.tmp 146) (Go.Operand.tmp 148) (Go.Operand.const (Go.Value.bool false)), type := 4, pos := "law.go:22", after := #[{ on := 85, ground := Go.Ground.data }, { on := 87, ground := Go.Ground.data }], guard := none }) (v := ?_) rfl (by as_aux_lemma => kernel_rfl) (by as_aux_lemma => kernel_rfl) (by as_aux_lemma => kernel_rfl) (fun _ _ _ h => h) (Or.inl ⟨by rfl, ?_⟩) (by assumption) ?_
  rotate_left
  · intro w' hSw
    try dsimp only at hSw
    go_simp
    try with_reducible rfl
  try simp only [Act.put, List.setIfInBounds_toArray, List.set_cons_zero, List.set_cons_succ]
  refine wpAnyH_take (i := 89) (oi := { dst := some 150, op := Go.Op.move (Go.Operand.tmp 149), type := 4, pos := "law.go:22", after := #[{ on := 88, ground := Go.Ground.data }, { on := 87, ground := Go.Ground.chain }], guard := none }) (v := ?_) rfl (by as_aux_lemma => kernel_rfl) (by as_aux_lemma => kernel_rfl) (by as_aux_lemma => kernel_rfl) (fun _ _ _ h => h) (Or.inl ⟨by rfl, ?_⟩) (by assumption) ?_
  rotate_left
  · intro w' hSw
    try dsimp only at hSw
    go_simp
    try with_reducible rfl
  try simp only [Act.put, List.setIfInBounds_toArray, List.set_cons_zero, List.set_cons_succ]
  refine wpAnyH_take (i := 90) (oi := { dst := some 151, op := Go.Op.move (Go.Operand.tmp 2), type := 22, pos := "law.go:22", after := #[{ on := 89, ground := Go.Ground.guard }], guard := some (89, true) }) (v := ?_) rfl (by as_aux_lemma => kernel_rfl) (by as_aux_lemma => kernel_rfl) (by as_aux_lemma => kernel_rfl) (fun _ _ _ h => h) (Or.inl ⟨by rfl, ?_⟩) (by assumption) ?_
  rotate_left
  · intro w' hSw
    try dsimp only at hSw
    go_simp
    try with_reducible rfl
  try simp only [Act.put, List.setIfInBounds_toArray, List.set_cons_zero, List.set_cons_succ]
  refine wpAnyH_take (i := 91) (oi := { dst := some 152, op := Go.Op.indexAddr 22 (Go.Operand.tmp 151) (Go.Operand.const (Go.Value.int Go.IntKind.i64 1)), type := 0, pos := "law.go:22", after := #[{ on := 90, ground := Go.Ground.data }, { on := 89, ground := Go.Ground.guard }], guard := some (89, true) }) (v := ?_) rfl (by as_aux_lemma => kernel_rfl) (by as_aux_lemma => kernel_rfl) (by as_aux_lemma => kernel_rfl) (fun _ _ _ h => h) (Or.inl ⟨by rfl, ?_⟩) (by assumption) ?_
  rotate_left
  · intro w' hSw
    try dsimp only at hSw
    go_simp
    try with_reducible rfl
  try simp only [Act.put, List.setIfInBounds_toArray, List.set_cons_zero, List.set_cons_succ]
  refine wpAnyH_take (i := 92) (oi := { dst := some 153, op := Go.Op.load 48 (Go.Operand.tmp 152), type := 48, pos := "law.go:22", after := #[{ on := 91, ground := Go.Ground.data }, { on := 89, ground := Go.Ground.guard }], guard := some (89, true) }) (v := ?_) rfl (by as_aux_lemma => kernel_rfl) (by as_aux_lemma => kernel_rfl) (by as_aux_lemma => kernel_rfl) (fun _ _ _ h => h) (Or.inl ⟨by rfl, ?_⟩) (by assumption) ?_
  rotate_left
  · intro w' hSw
    try dsimp only at hSw
    go_simp
    try with_reducible rfl
  try simp only [Act.put, List.setIfInBounds_toArray, List.set_cons_zero, List.set_cons_succ]
  refine wpAnyH_take (i := 93) (oi := { dst := some 154, op := Go.Op.move (Go.Operand.tmp 2), type := 22, pos := "law.go:22", after := #[{ on := 89, ground := Go.Ground.guard }], guard := some (89, true) }) (v := ?_) rfl (by as_aux_lemma => kernel_rfl) (by as_aux_lemma => kernel_rfl) (by as_aux_lemma => kernel_rfl) (fun _ _ _ h => h) (Or.inl ⟨by rfl, ?_⟩) (by assumption) ?_
  rotate_left
  · intro w' hSw
    try dsimp only at hSw
    go_simp
    try with_reducible rfl
  try simp only [Act.put, List.setIfInBounds_toArray, List.set_cons_zero, List.set_cons_succ]
  refine wpAnyH_take (i := 94) (oi := { dst := some 155, op := Go.Op.indexAddr 22 (Go.Operand.tmp 154) (Go.Operand.const (Go.Value.int Go.IntKind.i64 0)), type := 0, pos := "law.go:22", after := #[{ on := 93, ground := Go.Ground.data }, { on := 89, ground := Go.Ground.guard }], guard := some (89, true) }) (v := ?_) rfl (by as_aux_lemma => kernel_rfl) (by as_aux_lemma => kernel_rfl) (by as_aux_lemma => kernel_rfl) (fun _ _ _ h => h) (Or.inl ⟨by rfl, ?_⟩) (by assumption) ?_
  rotate_left
  · intro w' hSw
    try dsimp only at hSw
    go_simp
    try with_reducible rfl
  try simp only [Act.put, List.setIfInBounds_toArray, List.set_cons_zero, List.set_cons_succ]
  refine wpAnyH_take (i := 95) (oi := { dst := some 156, op := Go.Op.load 48 (Go.Operand.tmp 155), type := 48, pos := "law.go:22", after := #[{ on := 94, ground := Go.Ground.data }, { on := 89, ground := Go.Ground.guard }], guard := some (89, true) }) (v := ?_) rfl (by as_aux_lemma => kernel_rfl) (by as_aux_lemma => kernel_rfl) (by as_aux_lemma => kernel_rfl) (fun _ _ _ h => h) (Or.inl ⟨by rfl, ?_⟩) (by assumption) ?_
  rotate_left
  · intro w' hSw
    try dsimp only at hSw
    go_simp
    try with_reducible rfl
  try simp only [Act.put, List.setIfInBounds_toArray, List.set_cons_zero, List.set_cons_succ]
  refine wpAnyH_ready (rs := [96]) (by as_aux_lemma => kernel_rfl) (by simp) ?_
  refine AllReadyH.cons (o := { dst := some 157, op := Go.Op.buildSlice 22 2 #[(0, Go.Operand.tmp 153), (1, Go.Operand.tmp 156)], type := 22, pos := "law.go:22", after := #[{ on := 92, ground := Go.Ground.data }, { on := 95, ground := Go.Ground.data }, { on := 89, ground := Go.Ground.guard }], guard := some (89, true) }) rfl (fun K hK => ?_) AllReadyH.nil
  go_simp
  refine hK.out _ _ ?_ (fun hHeld2 => ?_)
  · exact keep26 ((Below.refl _ _).alloc (Nat.le_refl _) _) hHeld
  clear hK K hHeld
  have hHeld := hHeld2
  clear hHeld2
  try simp only [Act.put, List.setIfInBounds_toArray, List.set_cons_zero, List.set_cons_succ]
  refine wpAnyH_ready (rs := [97]) (by as_aux_lemma => kernel_rfl) (by simp) ?_
  refine AllReadyH.cons (o := { dst := some 158, op := Go.Op.call { callee := Go.Callee.value (Go.Operand.func 19), args := #[Go.Operand.tmp 157], argTypes := #[22] }, type := 4, pos := "law.go:22", after := #[{ on := 96, ground := Go.Ground.data }, { on := 89, ground := Go.Ground.chain }, { on := 89, ground := Go.Ground.guard }], guard := some (89, true) }) rfl (fun K hK => ?_) AllReadyH.nil
  go_simp
  refine (dimay_eq (tab_made w13 _ rfl 48 [lvA, lvB] (by decide) #[.string ⟨#[97, 97]⟩, .int .i64 4, .int .i64 0, .int .i64 5, .string ⟨#[]⟩, .string ⟨#[98]⟩, .int .i64 4, .int .i64 0, .int .i64 5, .string ⟨#[]⟩] rfl 2 rfl) short_lv2 lv11).mono ?_
  rintro e w14 ⟨rfl, hb14⟩
  have D14 : Hid (Below W0.heap.size W0 w14) := Lib.hid (below2' (bl_alloc D13.out _) hb14)
  go_wp2_with fail
  refine hK.out _ _ ?_ (fun hHeld2 => ?_)
  · exact keep26 hb14 hHeld
  clear hK K hHeld
  have hHeld := hHeld2
  clear hHeld2 hb14
  try simp only [Act.put, List.setIfInBounds_toArray, List.set_cons_zero, List.set_cons_succ]
  refine wpAnyH_take (i := 98) (oi := { dst := some 159, op := Go.Op.unOp Go.UnOp.not 4 (Go.Operand.tmp 158), type := 4, pos := "law.go:22", after := #[{ on := 97, ground := Go.Ground.data }, { on := 89, ground := Go.Ground.guard }], guard := some (89, true) }) (v := ?_) rfl (by as_aux_lemma => kernel_rfl) (by as_aux_lemma => kernel_rfl) (by as_aux_lemma => kernel_rfl) (fun _ _ _ h => h) (Or.inl ⟨by rfl, ?_⟩) (by assumption) ?_
  rotate_left
  · intro w' hSw
    try dsimp only at hSw
    go_simp
    try with_reducible rfl
  try simp only [Act.put, List.setIfInBounds_toArray, List.set_cons_zero, List.set_cons_succ]
  refine wpAnyH_take (i := 99) (oi := { dst := some 160, op := Go.Op.pick (Go.Operand.tmp 150) (Go.Operand.tmp 159) (Go.Operand.const (Go.Value.bool false)), type := 4, pos := "law.go:22", after := #[{ on := 89, ground := Go.Ground.data }, { on := 98, ground := Go.Ground.data }], guard := none }) (v := ?_) rfl (by as_aux_lemma => kernel_rfl) (by as_aux_lemma => kernel_rfl) (by as_aux_lemma => kernel_rfl) (fun _ _ _ h => h) (Or.inl ⟨by rfl, ?_⟩) (by assumption) ?_
  rotate_left
  · intro w' hSw
    try dsimp only at hSw
    go_simp
    try with_reducible rfl
  try simp only [Act.put, List.setIfInBounds_toArray, List.set_cons_zero, List.set_cons_succ]
  refine wpAnyH_take (i := 100) (oi := { dst := some 0, op := Go.Op.assign (Go.Operand.tmp 160), type := 4, pos := "law.go:22", after := ([{ on := 99, ground := Go.Ground.data }, { on := 97, ground := Go.Ground.chain }, { on := 0, ground := Go.Ground.phase }, { on := 1, ground := Go.Ground.phase }, { on := 2, ground := Go.Ground.phase }, { on := 3, ground := Go.Ground.phase }, { on := 4, ground := Go.Ground.phase }, { on := 5, ground := Go.Ground.phase }, { on := 6, ground := Go.Ground.phase }, { on := 7, ground := Go.Ground.phase }, { on := 8, ground := Go.Ground.phase }, { on := 9, ground := Go.Ground.phase }, { on := 10, ground := Go.Ground.phase }, { on := 11, ground := Go.Ground.phase }, { on := 12, ground := Go.Ground.phase }, { on := 13, ground := Go.Ground.phase }, { on := 14, ground := Go.Ground.phase }, { on := 15, ground := Go.Ground.phase }, { on := 16, ground := Go.Ground.phase }, { on := 17, ground := Go.Ground.phase }, { on := 18, ground := Go.Ground.phase }, { on := 19, ground := Go.Ground.phase }, { on := 20, ground := Go.Ground.phase }, { on := 21, ground := Go.Ground.phase }, { on := 22, ground := Go.Ground.phase }, { on := 23, ground := Go.Ground.phase }, { on := 24, ground := Go.Ground.phase }, { on := 25, ground := Go.Ground.phase }, { on := 26, ground := Go.Ground.phase }, { on := 27, ground := Go.Ground.phase }, { on := 28, ground := Go.Ground.phase }, { on := 29, ground := Go.Ground.phase }, { on := 30, ground := Go.Ground.phase }, { on := 31, ground := Go.Ground.phase }, { on := 32, ground := Go.Ground.phase }, { on := 33, ground := Go.Ground.phase }, { on := 34, ground := Go.Ground.phase }, { on := 35, ground := Go.Ground.phase }, { on := 36, ground := Go.Ground.phase }, { on := 37, ground := Go.Ground.phase }, { on := 38, ground := Go.Ground.phase }, { on := 39, ground := Go.Ground.phase }, { on := 40, ground := Go.Ground.phase }, { on := 41, ground := Go.Ground.phase }, { on := 42, ground := Go.Ground.phase }, { on := 43, ground := Go.Ground.phase }, { on := 44, ground := Go.Ground.phase }, { on := 45, ground := Go.Ground.phase }, { on := 46, ground := Go.Ground.phase }, { on := 47, ground := Go.Ground.phase }, { on := 48, ground := Go.Ground.phase }].append [{ on := 49, ground := Go.Ground.phase }, { on := 50, ground := Go.Ground.phase }, { on := 51, ground := Go.Ground.phase }, { on := 52, ground := Go.Ground.phase }, { on := 53, ground := Go.Ground.phase }, { on := 54, ground := Go.Ground.phase }, { on := 55, ground := Go.Ground.phase }, { on := 56, ground := Go.Ground.phase }, { on := 57, ground := Go.Ground.phase }, { on := 58, ground := Go.Ground.phase }, { on := 59, ground := Go.Ground.phase }, { on := 60, ground := Go.Ground.phase }, { on := 61, ground := Go.Ground.phase }, { on := 62, ground := Go.Ground.phase }, { on := 63, ground := Go.Ground.phase }, { on := 64, ground := Go.Ground.phase }, { on := 65, ground := Go.Ground.phase }, { on := 66, ground := Go.Ground.phase }, { on := 67, ground := Go.Ground.phase }, { on := 68, ground := Go.Ground.phase }, { on := 69, ground := Go.Ground.phase }, { on := 70, ground := Go.Ground.phase }, { on := 71, ground := Go.Ground.phase }, { on := 72, ground := Go.Ground.phase }, { on := 73, ground := Go.Ground.phase }, { on := 74, ground := Go.Ground.phase }, { on := 75, ground := Go.Ground.phase }, { on := 76, ground := Go.Ground.phase }, { on := 77, ground := Go.Ground.phase }, { on := 78, ground := Go.Ground.phase }, { on := 79, ground := Go.Ground.phase }, { on := 80, ground := Go.Ground.phase }, { on := 81, ground := Go.Ground.phase }, { on := 82, ground := Go.Ground.phase }, { on := 83, ground := Go.Ground.phase }, { on := 84, ground := Go.Ground.phase }, { on := 85, ground := Go.Ground.phase }, { on := 86, ground := Go.Ground.phase }, { on := 87, ground := Go.Ground.phase }, { on := 88, ground := Go.Ground.phase }, { on := 89, ground := Go.Ground.phase }, { on := 90, ground := Go.Ground.phase }, { on := 91, ground := Go.Ground.phase }, { on := 92, ground := Go.Ground.phase }, { on := 93, ground := Go.Ground.phase }, { on := 94, ground := Go.Ground.phase }, { on := 95, ground := Go.Ground.phase }, { on := 96, ground := Go.Ground.phase }, { on := 97, ground := Go.Ground.phase }, { on := 98, ground := Go.Ground.phase }, { on := 99, ground := Go.Ground.phase }]).toArray, guard := none }) (v := ?_) rfl (by as_aux_lemma => kernel_rfl) (by as_aux_lemma => kernel_rfl) (by as_aux_lemma => kernel_rfl) (fun _ _ _ h => h) (Or.inl ⟨by rfl, ?_⟩) (by assumption) ?_
  rotate_left
  · intro w' hSw
    try dsimp only at hSw
    go_simp
    try with_reducible rfl
  try simp only [Act.put, List.setIfInBounds_toArray, List.set_cons_zero, List.set_cons_succ]
  refine wpAnyH_done (by as_aux_lemma => kernel_rfl) ?_ _
  refine NoPanic.normal ?_
  all_goals
    go_wp2_with fail
    go_ret
    exact ⟨rfl, below2' B0.out D14.out⟩

end Go.Proofs.Ytocjeehoghfnmaa
