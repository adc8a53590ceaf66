/-
  TEXTS OF THE PROOF, one behind the other: SubDo3, SubDo4.
-/
import Derived.Test.YtlckphdmflofgaaB04

section
/-
  THE CONTRACT OF subs.Act at kind 3, of items that may be.
-/
namespace Go.Proofs.Ytlckphdmflofgaa
open Go.RowKit

theorem unsubscribe_eq (a1 a2 a3 a4 a5 b1 b2 b3 b4 b5 : Bool) {x1 x2 x3 x4 x5 y1 y2 y3 y4 y5 : Bool} {er : Nat} (h : Hid (suDo ⟨a1, a2, a3, a4, a5⟩ ⟨b1, b2, b3, b4, b5⟩ 3 = (⟨x1, x2, x3, x4, x5⟩, ⟨y1, y2, y3, y4, y5⟩, er))) (w : World) :
    Calls Try.prog 73 #[.agg #[.bool a1, .bool a2, .bool a3, .bool a4, .bool a5, .bool b1, .bool b2, .bool b3, .bool b4, .bool b5]] w fun e w' => e = .returned (.tuple #[.agg #[.bool x1, .bool x2, .bool x3, .bool x4, .bool x5, .bool y1, .bool y2, .bool y3, .bool y4, .bool y5], .int .i64 er]) ∧ Below w.heap.size w w' := by
  have g := unsubscribe_any a1 a2 a3 a4 a5 b1 b2 b3 b4 b5 w
  rw [h.out] at g
  exact g

set_option maxHeartbeats 3200000 in
set_option maxRecDepth 100000 in
theorem sact_err3 (a1 a2 a3 a4 a5 b1 b2 b3 b4 b5 : Bool) {x1 x2 x3 x4 x5 y1 y2 y3 y4 y5 : Bool} {er : Nat} (he : er ≠ 0) (HM : Hid (suMay ⟨a1, a2, a3, a4, a5⟩ ⟨b1, b2, b3, b4, b5⟩ = true)) (HD : Hid (suDo ⟨a1, a2, a3, a4, a5⟩ ⟨b1, b2, b3, b4, b5⟩ 3 = (⟨x1, x2, x3, x4, x5⟩, ⟨y1, y2, y3, y4, y5⟩, er))) (w : World) :
    Calls Try.prog 38 #[.agg #[.bool a1, .bool a2, .bool a3, .bool a4, .bool a5], .agg #[.bool b1, .bool b2, .bool b3, .bool b4, .bool b5], .int .i64 3] w fun e w' => e = .returned (actE (⟨a1, a2, a3, a4, a5⟩, ⟨b1, b2, b3, b4, b5⟩, er)) ∧ Below w.heap.size w w' := by
  have t1 : ((er : Int) != 0) = true := by rw [bne_iff_ne]; omega
  clear he
  have B0 : Hid (Below w.heap.size w (((((w.alloc (.cells #[.bool a1, .bool a2, .bool a3, .bool a4, .bool a5] 68)).alloc (.cells #[.bool b1, .bool b2, .bool b3, .bool b4, .bool b5] 68)).alloc (.cells #[.bool false, .bool false, .bool false, .bool false, .bool false] 68)).alloc (.cells #[.bool false, .bool false, .bool false, .bool false, .bool false] 68)))) := Lib.hid (((((Below.refl _ _).alloc (Nat.le_refl _) _).alloc (by simp) _).alloc (by simp; omega) _).alloc (by simp; omega) _)
  go_enter Try.func38, Try.ntmps38
  go_wp2_with fail
  refine (kinds_any _).mono ?_
  rintro e w1 ⟨rfl, hf, hb⟩
  have hl0 := hf.look 3 (by decide)
  have hl1 : ∀ B, B = (((((w.alloc (.cells #[.bool a1, .bool a2, .bool a3, .bool a4, .bool a5] 68)).alloc (.cells #[.bool b1, .bool b2, .bool b3, .bool b4, .bool b5] 68)).alloc (.cells #[.bool false, .bool false, .bool false, .bool false, .bool false] 68)).alloc (.cells #[.bool false, .bool false, .bool false, .bool false, .bool false] 68))).heap.size → (Instr.lookup 94 (.map (some B)) (.int .i64 3) true).run Try.prog w1 = .ok (.tuple #[.func (.func 73) #[] #[], .bool true]) w1 := fun B e => by rw [e]; exact hl0
  have hl := hl1 (w.heap.size + 1 + 1 + 1 + 1) (by simp)
  clear hl0 hl1
  have HB1 : Hid (Below w.heap.size w w1) := Lib.hid (below2S B0.out hb)
  have hz1 : w.heap.size + 1 + 1 + 1 + 1 ≤ w1.heap.size := by have := hb.size; simp at this; omega
  obtain ⟨c00, c01, c02, c03, c04, c10, c11, c12, c13, c14, c20, z20, c21, z21, c22, z22, c23, z23, c24, z24, c30, z30, c31, z31, c32, z32, c33, z33, c34, z34⟩ := act_cells hb
  clear hf hb
  go_wp2_with fail
  refine (smay_eq _ _ _ _ _ _ _ _ _ _ HM _).mono ?_
  rintro e w2 ⟨rfl, rfl⟩
  obtain ⟨w2, hw2⟩ : ∃ w2, w2 = (w1.alloc (.cells #[.bool a1, .bool a2, .bool a3, .bool a4, .bool a5] 68)).alloc (.cells #[.bool b1, .bool b2, .bool b3, .bool b4, .bool b5] 68) := ⟨_, rfl⟩
  rw [← hw2]
  have hb2 : Below w1.heap.size w1 w2 := by rw [hw2]; exact ((Below.refl _ _).alloc (Nat.le_refl _) _).alloc (by simp) _
  have HB2 : Hid (Below w.heap.size w w2) := Lib.hid (below2S HB1.out hb2)
  have hz2 : w.heap.size + 1 + 1 + 1 + 1 ≤ w2.heap.size := Nat.le_trans hz1 hb2.size
  clear hw2
  have hcs := act30 hb2 c00 c01 c02 c03 c04 c10 c11 c12 c13 c14 c20 c21 c22 c23 c24 c30 c31 c32 c33 c34 z20 z21 z22 z23 z24 z30 z31 z32 z33 z34
  clear c00 c01 c02 c03 c04 c10 c11 c12 c13 c14 c20 c21 c22 c23 c24 c30 c31 c32 c33 c34 z20 z21 z22 z23 z24 z30 z31 z32 z33 z34
  obtain ⟨c00, c01, c02, c03, c04, c10, c11, c12, c13, c14, c20, c21, c22, c23, c24, c30, c31, c32, c33, c34, z20, z21, z22, z23, z24, z30, z31, z32, z33, z34⟩ := hcs
  clear hb2 hz1
  go_wp2_with fail
  refine (unsubscribe_eq _ _ _ _ _ _ _ _ _ _ HD _).mono ?_
  rintro e w3 ⟨rfl, hb3⟩
  have HB3 : Hid (Below w.heap.size w w3) := Lib.hid (below2S HB2.out hb3)
  have hz3 : w.heap.size + 1 + 1 + 1 + 1 ≤ w3.heap.size := Nat.le_trans hz2 hb3.size
  have hcs := act30 hb3 c00 c01 c02 c03 c04 c10 c11 c12 c13 c14 c20 c21 c22 c23 c24 c30 c31 c32 c33 c34 z20 z21 z22 z23 z24 z30 z31 z32 z33 z34
  clear c00 c01 c02 c03 c04 c10 c11 c12 c13 c14 c20 c21 c22 c23 c24 c30 c31 c32 c33 c34 z20 z21 z22 z23 z24 z30 z31 z32 z33 z34
  obtain ⟨c00, c01, c02, c03, c04, c10, c11, c12, c13, c14, c20, c21, c22, c23, c24, c30, c31, c32, c33, c34, z20, z21, z22, z23, z24, z30, z31, z32, z33, z34⟩ := hcs
  clear hb3 hz2
  go_wp2_with fail
  have hb4 : Below w3.heap.size w3 (w3.alloc (.cells #[.bool x1, .bool x2, .bool x3, .bool x4, .bool x5, .bool y1, .bool y2, .bool y3, .bool y4, .bool y5] 97)) := (Below.refl _ _).alloc (Nat.le_refl _) _
  have HB4 : Hid (Below w.heap.size w (w3.alloc (.cells #[.bool x1, .bool x2, .bool x3, .bool x4, .bool x5, .bool y1, .bool y2, .bool y3, .bool y4, .bool y5] 97))) := Lib.hid (below2S HB3.out hb4)
  have hcs := act30 hb4 c00 c01 c02 c03 c04 c10 c11 c12 c13 c14 c20 c21 c22 c23 c24 c30 c31 c32 c33 c34 z20 z21 z22 z23 z24 z30 z31 z32 z33 z34
  clear c00 c01 c02 c03 c04 c10 c11 c12 c13 c14 c20 c21 c22 c23 c24 c30 c31 c32 c33 c34 z20 z21 z22 z23 z24 z30 z31 z32 z33 z34
  obtain ⟨c00, c01, c02, c03, c04, c10, c11, c12, c13, c14, c20, c21, c22, c23, c24, c30, c31, c32, c33, c34, z20, z21, z22, z23, z24, z30, z31, z32, z33, z34⟩ := hcs
  go_region
  try go_wp2_with fail
  obtain ⟨r0, r1, r2, r3, r4, r5, r6, r7, r8, r9⟩ := set10_get (w3.alloc (.cells #[.bool x1, .bool x2, .bool x3, .bool x4, .bool x5, .bool y1, .bool y2, .bool y3, .bool y4, .bool y5] 97)) (w.heap.size + 1 + 1) (w.heap.size + 1 + 1 + 1) (by omega) (.bool a1) (.bool a2) (.bool a3) (.bool a4) (.bool a5) (.bool b1) (.bool b2) (.bool b3) (.bool b4) (.bool b5) _ _ _ _ _ _ _ _ _ _ c20 c21 c22 c23 c24 c30 c31 c32 c33 c34
  have hB := set10_below HB4.out (w.heap.size + 1 + 1) (w.heap.size + 1 + 1 + 1) (by omega) (by omega) (.bool a1) (.bool a2) (.bool a3) (.bool a4) (.bool a5) (.bool b1) (.bool b2) (.bool b3) (.bool b4) (.bool b5)
  show bodyPost _ _ _ _ _ (set10 (w3.alloc (.cells #[.bool x1, .bool x2, .bool x3, .bool x4, .bool x5, .bool y1, .bool y2, .bool y3, .bool y4, .bool y5] 97)) (w.heap.size + 1 + 1) (w.heap.size + 1 + 1 + 1) (.bool a1) (.bool a2) (.bool a3) (.bool a4) (.bool a5) (.bool b1) (.bool b2) (.bool b3) (.bool b4) (.bool b5)).drew
  exact bodyPost_ret (v := actE (⟨a1, a2, a3, a4, a5⟩, ⟨b1, b2, b3, b4, b5⟩, er)) (by simp [results, Try.results38, go_sem, actE, r0, r1, r2, r3, r4, r5, r6, r7, r8, r9]) rfl ⟨rfl, hB.drew⟩

set_option maxHeartbeats 3200000 in
set_option maxRecDepth 100000 in
theorem sact_ok3 (a1 a2 a3 a4 a5 b1 b2 b3 b4 b5 : Bool) {x1 x2 x3 x4 x5 y1 y2 y3 y4 y5 : Bool} (HM : Hid (suMay ⟨a1, a2, a3, a4, a5⟩ ⟨b1, b2, b3, b4, b5⟩ = true)) (HD : Hid (suDo ⟨a1, a2, a3, a4, a5⟩ ⟨b1, b2, b3, b4, b5⟩ 3 = (⟨x1, x2, x3, x4, x5⟩, ⟨y1, y2, y3, y4, y5⟩, 0))) (w : World) :
    Calls Try.prog 38 #[.agg #[.bool a1, .bool a2, .bool a3, .bool a4, .bool a5], .agg #[.bool b1, .bool b2, .bool b3, .bool b4, .bool b5], .int .i64 3] w fun e w' => e = .returned (actE (⟨x1, x2, x3, x4, x5⟩, ⟨y1, y2, y3, y4, y5⟩, 0)) ∧ Below w.heap.size w w' := by
  have B0 : Hid (Below w.heap.size w (((((w.alloc (.cells #[.bool a1, .bool a2, .bool a3, .bool a4, .bool a5] 68)).alloc (.cells #[.bool b1, .bool b2, .bool b3, .bool b4, .bool b5] 68)).alloc (.cells #[.bool false, .bool false, .bool false, .bool false, .bool false] 68)).alloc (.cells #[.bool false, .bool false, .bool false, .bool false, .bool false] 68)))) := Lib.hid (((((Below.refl _ _).alloc (Nat.le_refl _) _).alloc (by simp) _).alloc (by simp; omega) _).alloc (by simp; omega) _)
  go_enter Try.func38, Try.ntmps38
  go_wp2_with fail
  refine (kinds_any _).mono ?_
  rintro e w1 ⟨rfl, hf, hb⟩
  have hl0 := hf.look 3 (by decide)
  have hl1 : ∀ B, B = (((((w.alloc (.cells #[.bool a1, .bool a2, .bool a3, .bool a4, .bool a5] 68)).alloc (.cells #[.bool b1, .bool b2, .bool b3, .bool b4, .bool b5] 68)).alloc (.cells #[.bool false, .bool false, .bool false, .bool false, .bool false] 68)).alloc (.cells #[.bool false, .bool false, .bool false, .bool false, .bool false] 68))).heap.size → (Instr.lookup 94 (.map (some B)) (.int .i64 3) true).run Try.prog w1 = .ok (.tuple #[.func (.func 73) #[] #[], .bool true]) w1 := fun B e => by rw [e]; exact hl0
  have hl := hl1 (w.heap.size + 1 + 1 + 1 + 1) (by simp)
  clear hl0 hl1
  have HB1 : Hid (Below w.heap.size w w1) := Lib.hid (below2S B0.out hb)
  have hz1 : w.heap.size + 1 + 1 + 1 + 1 ≤ w1.heap.size := by have := hb.size; simp at this; omega
  obtain ⟨c00, c01, c02, c03, c04, c10, c11, c12, c13, c14, c20, z20, c21, z21, c22, z22, c23, z23, c24, z24, c30, z30, c31, z31, c32, z32, c33, z33, c34, z34⟩ := act_cells hb
  clear hf hb
  go_wp2_with fail
  refine (smay_eq _ _ _ _ _ _ _ _ _ _ HM _).mono ?_
  rintro e w2 ⟨rfl, rfl⟩
  obtain ⟨w2, hw2⟩ : ∃ w2, w2 = (w1.alloc (.cells #[.bool a1, .bool a2, .bool a3, .bool a4, .bool a5] 68)).alloc (.cells #[.bool b1, .bool b2, .bool b3, .bool b4, .bool b5] 68) := ⟨_, rfl⟩
  rw [← hw2]
  have hb2 : Below w1.heap.size w1 w2 := by rw [hw2]; exact ((Below.refl _ _).alloc (Nat.le_refl _) _).alloc (by simp) _
  have HB2 : Hid (Below w.heap.size w w2) := Lib.hid (below2S HB1.out hb2)
  have hz2 : w.heap.size + 1 + 1 + 1 + 1 ≤ w2.heap.size := Nat.le_trans hz1 hb2.size
  clear hw2
  have hcs := act30 hb2 c00 c01 c02 c03 c04 c10 c11 c12 c13 c14 c20 c21 c22 c23 c24 c30 c31 c32 c33 c34 z20 z21 z22 z23 z24 z30 z31 z32 z33 z34
  clear c00 c01 c02 c03 c04 c10 c11 c12 c13 c14 c20 c21 c22 c23 c24 c30 c31 c32 c33 c34 z20 z21 z22 z23 z24 z30 z31 z32 z33 z34
  obtain ⟨c00, c01, c02, c03, c04, c10, c11, c12, c13, c14, c20, c21, c22, c23, c24, c30, c31, c32, c33, c34, z20, z21, z22, z23, z24, z30, z31, z32, z33, z34⟩ := hcs
  clear hb2 hz1
  go_wp2_with fail
  refine (unsubscribe_eq _ _ _ _ _ _ _ _ _ _ HD _).mono ?_
  rintro e w3 ⟨rfl, hb3⟩
  have HB3 : Hid (Below w.heap.size w w3) := Lib.hid (below2S HB2.out hb3)
  have hz3 : w.heap.size + 1 + 1 + 1 + 1 ≤ w3.heap.size := Nat.le_trans hz2 hb3.size
  have hcs := act30 hb3 c00 c01 c02 c03 c04 c10 c11 c12 c13 c14 c20 c21 c22 c23 c24 c30 c31 c32 c33 c34 z20 z21 z22 z23 z24 z30 z31 z32 z33 z34
  clear c00 c01 c02 c03 c04 c10 c11 c12 c13 c14 c20 c21 c22 c23 c24 c30 c31 c32 c33 c34 z20 z21 z22 z23 z24 z30 z31 z32 z33 z34
  obtain ⟨c00, c01, c02, c03, c04, c10, c11, c12, c13, c14, c20, c21, c22, c23, c24, c30, c31, c32, c33, c34, z20, z21, z22, z23, z24, z30, z31, z32, z33, z34⟩ := hcs
  clear hb3 hz2
  go_wp2_with fail
  have hb4 : Below w3.heap.size w3 (w3.alloc (.cells #[.bool x1, .bool x2, .bool x3, .bool x4, .bool x5, .bool y1, .bool y2, .bool y3, .bool y4, .bool y5] 97)) := (Below.refl _ _).alloc (Nat.le_refl _) _
  have HB4 : Hid (Below w.heap.size w (w3.alloc (.cells #[.bool x1, .bool x2, .bool x3, .bool x4, .bool x5, .bool y1, .bool y2, .bool y3, .bool y4, .bool y5] 97))) := Lib.hid (below2S HB3.out hb4)
  have hcs := act30 hb4 c00 c01 c02 c03 c04 c10 c11 c12 c13 c14 c20 c21 c22 c23 c24 c30 c31 c32 c33 c34 z20 z21 z22 z23 z24 z30 z31 z32 z33 z34
  clear c00 c01 c02 c03 c04 c10 c11 c12 c13 c14 c20 c21 c22 c23 c24 c30 c31 c32 c33 c34 z20 z21 z22 z23 z24 z30 z31 z32 z33 z34
  obtain ⟨c00, c01, c02, c03, c04, c10, c11, c12, c13, c14, c20, c21, c22, c23, c24, c30, c31, c32, c33, c34, z20, z21, z22, z23, z24, z30, z31, z32, z33, z34⟩ := hcs
  go_region
  try go_wp2_with fail
  obtain ⟨r0, r1, r2, r3, r4, r5, r6, r7, r8, r9⟩ := set10_get (w3.alloc (.cells #[.bool x1, .bool x2, .bool x3, .bool x4, .bool x5, .bool y1, .bool y2, .bool y3, .bool y4, .bool y5] 97)) (w.heap.size + 1 + 1) (w.heap.size + 1 + 1 + 1) (by omega) (.bool x1) (.bool x2) (.bool x3) (.bool x4) (.bool x5) (.bool y1) (.bool y2) (.bool y3) (.bool y4) (.bool y5) _ _ _ _ _ _ _ _ _ _ c20 c21 c22 c23 c24 c30 c31 c32 c33 c34
  have hB := set10_below HB4.out (w.heap.size + 1 + 1) (w.heap.size + 1 + 1 + 1) (by omega) (by omega) (.bool x1) (.bool x2) (.bool x3) (.bool x4) (.bool x5) (.bool y1) (.bool y2) (.bool y3) (.bool y4) (.bool y5)
  show bodyPost _ _ _ _ _ (set10 (w3.alloc (.cells #[.bool x1, .bool x2, .bool x3, .bool x4, .bool x5, .bool y1, .bool y2, .bool y3, .bool y4, .bool y5] 97)) (w.heap.size + 1 + 1) (w.heap.size + 1 + 1 + 1) (.bool x1) (.bool x2) (.bool x3) (.bool x4) (.bool x5) (.bool y1) (.bool y2) (.bool y3) (.bool y4) (.bool y5)).drew
  exact bodyPost_ret (v := actE (⟨x1, x2, x3, x4, x5⟩, ⟨y1, y2, y3, y4, y5⟩, 0)) (by simp [results, Try.results38, go_sem, actE, r0, r1, r2, r3, r4, r5, r6, r7, r8, r9]) rfl ⟨rfl, hB.drew⟩

end Go.Proofs.Ytlckphdmflofgaa
end

section
/-
  THE CONTRACT OF subs.Act at kind 4, of items that may be.
-/
namespace Go.Proofs.Ytlckphdmflofgaa
open Go.RowKit

theorem unsubscribed_eq (a1 a2 a3 a4 a5 b1 b2 b3 b4 b5 : Bool) {x1 x2 x3 x4 x5 y1 y2 y3 y4 y5 : Bool} {er : Nat} (h : Hid (suDo ⟨a1, a2, a3, a4, a5⟩ ⟨b1, b2, b3, b4, b5⟩ 4 = (⟨x1, x2, x3, x4, x5⟩, ⟨y1, y2, y3, y4, y5⟩, er))) (w : World) :
    Calls Try.prog 74 #[.agg #[.bool a1, .bool a2, .bool a3, .bool a4, .bool a5, .bool b1, .bool b2, .bool b3, .bool b4, .bool b5]] w fun e w' => e = .returned (.tuple #[.agg #[.bool x1, .bool x2, .bool x3, .bool x4, .bool x5, .bool y1, .bool y2, .bool y3, .bool y4, .bool y5], .int .i64 er]) ∧ Below w.heap.size w w' := by
  have g := unsubscribed_any a1 a2 a3 a4 a5 b1 b2 b3 b4 b5 w
  rw [h.out] at g
  exact g

set_option maxHeartbeats 3200000 in
set_option maxRecDepth 100000 in
theorem sact_err4 (a1 a2 a3 a4 a5 b1 b2 b3 b4 b5 : Bool) {x1 x2 x3 x4 x5 y1 y2 y3 y4 y5 : Bool} {er : Nat} (he : er ≠ 0) (HM : Hid (suMay ⟨a1, a2, a3, a4, a5⟩ ⟨b1, b2, b3, b4, b5⟩ = true)) (HD : Hid (suDo ⟨a1, a2, a3, a4, a5⟩ ⟨b1, b2, b3, b4, b5⟩ 4 = (⟨x1, x2, x3, x4, x5⟩, ⟨y1, y2, y3, y4, y5⟩, er))) (w : World) :
    Calls Try.prog 38 #[.agg #[.bool a1, .bool a2, .bool a3, .bool a4, .bool a5], .agg #[.bool b1, .bool b2, .bool b3, .bool b4, .bool b5], .int .i64 4] w fun e w' => e = .returned (actE (⟨a1, a2, a3, a4, a5⟩, ⟨b1, b2, b3, b4, b5⟩, er)) ∧ Below w.heap.size w w' := by
  have t1 : ((er : Int) != 0) = true := by rw [bne_iff_ne]; omega
  clear he
  have B0 : Hid (Below w.heap.size w (((((w.alloc (.cells #[.bool a1, .bool a2, .bool a3, .bool a4, .bool a5] 68)).alloc (.cells #[.bool b1, .bool b2, .bool b3, .bool b4, .bool b5] 68)).alloc (.cells #[.bool false, .bool false, .bool false, .bool false, .bool false] 68)).alloc (.cells #[.bool false, .bool false, .bool false, .bool false, .bool false] 68)))) := Lib.hid (((((Below.refl _ _).alloc (Nat.le_refl _) _).alloc (by simp) _).alloc (by simp; omega) _).alloc (by simp; omega) _)
  go_enter Try.func38, Try.ntmps38
  go_wp2_with fail
  refine (kinds_any _).mono ?_
  rintro e w1 ⟨rfl, hf, hb⟩
  have hl0 := hf.look 4 (by decide)
  have hl1 : ∀ B, B = (((((w.alloc (.cells #[.bool a1, .bool a2, .bool a3, .bool a4, .bool a5] 68)).alloc (.cells #[.bool b1, .bool b2, .bool b3, .bool b4, .bool b5] 68)).alloc (.cells #[.bool false, .bool false, .bool false, .bool false, .bool false] 68)).alloc (.cells #[.bool false, .bool false, .bool false, .bool false, .bool false] 68))).heap.size → (Instr.lookup 94 (.map (some B)) (.int .i64 4) true).run Try.prog w1 = .ok (.tuple #[.func (.func 74) #[] #[], .bool true]) w1 := fun B e => by rw [e]; exact hl0
  have hl := hl1 (w.heap.size + 1 + 1 + 1 + 1) (by simp)
  clear hl0 hl1
  have HB1 : Hid (Below w.heap.size w w1) := Lib.hid (below2S B0.out hb)
  have hz1 : w.heap.size + 1 + 1 + 1 + 1 ≤ w1.heap.size := by have := hb.size; simp at this; omega
  obtain ⟨c00, c01, c02, c03, c04, c10, c11, c12, c13, c14, c20, z20, c21, z21, c22, z22, c23, z23, c24, z24, c30, z30, c31, z31, c32, z32, c33, z33, c34, z34⟩ := act_cells hb
  clear hf hb
  go_wp2_with fail
  refine (smay_eq _ _ _ _ _ _ _ _ _ _ HM _).mono ?_
  rintro e w2 ⟨rfl, rfl⟩
  obtain ⟨w2, hw2⟩ : ∃ w2, w2 = (w1.alloc (.cells #[.bool a1, .bool a2, .bool a3, .bool a4, .bool a5] 68)).alloc (.cells #[.bool b1, .bool b2, .bool b3, .bool b4, .bool b5] 68) := ⟨_, rfl⟩
  rw [← hw2]
  have hb2 : Below w1.heap.size w1 w2 := by rw [hw2]; exact ((Below.refl _ _).alloc (Nat.le_refl _) _).alloc (by simp) _
  have HB2 : Hid (Below w.heap.size w w2) := Lib.hid (below2S HB1.out hb2)
  have hz2 : w.heap.size + 1 + 1 + 1 + 1 ≤ w2.heap.size := Nat.le_trans hz1 hb2.size
  clear hw2
  have hcs := act30 hb2 c00 c01 c02 c03 c04 c10 c11 c12 c13 c14 c20 c21 c22 c23 c24 c30 c31 c32 c33 c34 z20 z21 z22 z23 z24 z30 z31 z32 z33 z34
  clear c00 c01 c02 c03 c04 c10 c11 c12 c13 c14 c20 c21 c22 c23 c24 c30 c31 c32 c33 c34 z20 z21 z22 z23 z24 z30 z31 z32 z33 z34
  obtain ⟨c00, c01, c02, c03, c04, c10, c11, c12, c13, c14, c20, c21, c22, c23, c24, c30, c31, c32, c33, c34, z20, z21, z22, z23, z24, z30, z31, z32, z33, z34⟩ := hcs
  clear hb2 hz1
  go_wp2_with fail
  refine (unsubscribed_eq _ _ _ _ _ _ _ _ _ _ HD _).mono ?_
  rintro e w3 ⟨rfl, hb3⟩
  have HB3 : Hid (Below w.heap.size w w3) := Lib.hid (below2S HB2.out hb3)
  have hz3 : w.heap.size + 1 + 1 + 1 + 1 ≤ w3.heap.size := Nat.le_trans hz2 hb3.size
  have hcs := act30 hb3 c00 c01 c02 c03 c04 c10 c11 c12 c13 c14 c20 c21 c22 c23 c24 c30 c31 c32 c33 c34 z20 z21 z22 z23 z24 z30 z31 z32 z33 z34
  clear c00 c01 c02 c03 c04 c10 c11 c12 c13 c14 c20 c21 c22 c23 c24 c30 c31 c32 c33 c34 z20 z21 z22 z23 z24 z30 z31 z32 z33 z34
  obtain ⟨c00, c01, c02, c03, c04, c10, c11, c12, c13, c14, c20, c21, c22, c23, c24, c30, c31, c32, c33, c34, z20, z21, z22, z23, z24, z30, z31, z32, z33, z34⟩ := hcs
  clear hb3 hz2
  go_wp2_with fail
  have hb4 : Below w3.heap.size w3 (w3.alloc (.cells #[.bool x1, .bool x2, .bool x3, .bool x4, .bool x5, .bool y1, .bool y2, .bool y3, .bool y4, .bool y5] 97)) := (Below.refl _ _).alloc (Nat.le_refl _) _
  have HB4 : Hid (Below w.heap.size w (w3.alloc (.cells #[.bool x1, .bool x2, .bool x3, .bool x4, .bool x5, .bool y1, .bool y2, .bool y3, .bool y4, .bool y5] 97))) := Lib.hid (below2S HB3.out hb4)
  have hcs := act30 hb4 c00 c01 c02 c03 c04 c10 c11 c12 c13 c14 c20 c21 c22 c23 c24 c30 c31 c32 c33 c34 z20 z21 z22 z23 z24 z30 z31 z32 z33 z34
  clear c00 c01 c02 c03 c04 c10 c11 c12 c13 c14 c20 c21 c22 c23 c24 c30 c31 c32 c33 c34 z20 z21 z22 z23 z24 z30 z31 z32 z33 z34
  obtain ⟨c00, c01, c02, c03, c04, c10, c11, c12, c13, c14, c20, c21, c22, c23, c24, c30, c31, c32, c33, c34, z20, z21, z22, z23, z24, z30, z31, z32, z33, z34⟩ := hcs
  go_region
  try go_wp2_with fail
  obtain ⟨r0, r1, r2, r3, r4, r5, r6, r7, r8, r9⟩ := set10_get (w3.alloc (.cells #[.bool x1, .bool x2, .bool x3, .bool x4, .bool x5, .bool y1, .bool y2, .bool y3, .bool y4, .bool y5] 97)) (w.heap.size + 1 + 1) (w.heap.size + 1 + 1 + 1) (by omega) (.bool a1) (.bool a2) (.bool a3) (.bool a4) (.bool a5) (.bool b1) (.bool b2) (.bool b3) (.bool b4) (.bool b5) _ _ _ _ _ _ _ _ _ _ c20 c21 c22 c23 c24 c30 c31 c32 c33 c34
  have hB := set10_below HB4.out (w.heap.size + 1 + 1) (w.heap.size + 1 + 1 + 1) (by omega) (by omega) (.bool a1) (.bool a2) (.bool a3) (.bool a4) (.bool a5) (.bool b1) (.bool b2) (.bool b3) (.bool b4) (.bool b5)
  show bodyPost _ _ _ _ _ (set10 (w3.alloc (.cells #[.bool x1, .bool x2, .bool x3, .bool x4, .bool x5, .bool y1, .bool y2, .bool y3, .bool y4, .bool y5] 97)) (w.heap.size + 1 + 1) (w.heap.size + 1 + 1 + 1) (.bool a1) (.bool a2) (.bool a3) (.bool a4) (.bool a5) (.bool b1) (.bool b2) (.bool b3) (.bool b4) (.bool b5)).drew
  exact bodyPost_ret (v := actE (⟨a1, a2, a3, a4, a5⟩, ⟨b1, b2, b3, b4, b5⟩, er)) (by simp [results, Try.results38, go_sem, actE, r0, r1, r2, r3, r4, r5, r6, r7, r8, r9]) rfl ⟨rfl, hB.drew⟩

set_option maxHeartbeats 3200000 in
set_option maxRecDepth 100000 in
theorem sact_ok4 (a1 a2 a3 a4 a5 b1 b2 b3 b4 b5 : Bool) {x1 x2 x3 x4 x5 y1 y2 y3 y4 y5 : Bool} (HM : Hid (suMay ⟨a1, a2, a3, a4, a5⟩ ⟨b1, b2, b3, b4, b5⟩ = true)) (HD : Hid (suDo ⟨a1, a2, a3, a4, a5⟩ ⟨b1, b2, b3, b4, b5⟩ 4 = (⟨x1, x2, x3, x4, x5⟩, ⟨y1, y2, y3, y4, y5⟩, 0))) (w : World) :
    Calls Try.prog 38 #[.agg #[.bool a1, .bool a2, .bool a3, .bool a4, .bool a5], .agg #[.bool b1, .bool b2, .bool b3, .bool b4, .bool b5], .int .i64 4] w fun e w' => e = .returned (actE (⟨x1, x2, x3, x4, x5⟩, ⟨y1, y2, y3, y4, y5⟩, 0)) ∧ Below w.heap.size w w' := by
  have B0 : Hid (Below w.heap.size w (((((w.alloc (.cells #[.bool a1, .bool a2, .bool a3, .bool a4, .bool a5] 68)).alloc (.cells #[.bool b1, .bool b2, .bool b3, .bool b4, .bool b5] 68)).alloc (.cells #[.bool false, .bool false, .bool false, .bool false, .bool false] 68)).alloc (.cells #[.bool false, .bool false, .bool false, .bool false, .bool false] 68)))) := Lib.hid (((((Below.refl _ _).alloc (Nat.le_refl _) _).alloc (by simp) _).alloc (by simp; omega) _).alloc (by simp; omega) _)
  go_enter Try.func38, Try.ntmps38
  go_wp2_with fail
  refine (kinds_any _).mono ?_
  rintro e w1 ⟨rfl, hf, hb⟩
  have hl0 := hf.look 4 (by decide)
  have hl1 : ∀ B, B = (((((w.alloc (.cells #[.bool a1, .bool a2, .bool a3, .bool a4, .bool a5] 68)).alloc (.cells #[.bool b1, .bool b2, .bool b3, .bool b4, .bool b5] 68)).alloc (.cells #[.bool false, .bool false, .bool false, .bool false, .bool false] 68)).alloc (.cells #[.bool false, .bool false, .bool false, .bool false, .bool false] 68))).heap.size → (Instr.lookup 94 (.map (some B)) (.int .i64 4) true).run Try.prog w1 = .ok (.tuple #[.func (.func 74) #[] #[], .bool true]) w1 := fun B e => by rw [e]; exact hl0
  have hl := hl1 (w.heap.size + 1 + 1 + 1 + 1) (by simp)
  clear hl0 hl1
  have HB1 : Hid (Below w.heap.size w w1) := Lib.hid (below2S B0.out hb)
  have hz1 : w.heap.size + 1 + 1 + 1 + 1 ≤ w1.heap.size := by have := hb.size; simp at this; omega
  obtain ⟨c00, c01, c02, c03, c04, c10, c11, c12, c13, c14, c20, z20, c21, z21, c22, z22, c23, z23, c24, z24, c30, z30, c31, z31, c32, z32, c33, z33, c34, z34⟩ := act_cells hb
  clear hf hb
  go_wp2_with fail
  refine (smay_eq _ _ _ _ _ _ _ _ _ _ HM _).mono ?_
  rintro e w2 ⟨rfl, rfl⟩
  obtain ⟨w2, hw2⟩ : ∃ w2, w2 = (w1.alloc (.cells #[.bool a1, .bool a2, .bool a3, .bool a4, .bool a5] 68)).alloc (.cells #[.bool b1, .bool b2, .bool b3, .bool b4, .bool b5] 68) := ⟨_, rfl⟩
  rw [← hw2]
  have hb2 : Below w1.heap.size w1 w2 := by rw [hw2]; exact ((Below.refl _ _).alloc (Nat.le_refl _) _).alloc (by simp) _
  have HB2 : Hid (Below w.heap.size w w2) := Lib.hid (below2S HB1.out hb2)
  have hz2 : w.heap.size + 1 + 1 + 1 + 1 ≤ w2.heap.size := Nat.le_trans hz1 hb2.size
  clear hw2
  have hcs := act30 hb2 c00 c01 c02 c03 c04 c10 c11 c12 c13 c14 c20 c21 c22 c23 c24 c30 c31 c32 c33 c34 z20 z21 z22 z23 z24 z30 z31 z32 z33 z34
  clear c00 c01 c02 c03 c04 c10 c11 c12 c13 c14 c20 c21 c22 c23 c24 c30 c31 c32 c33 c34 z20 z21 z22 z23 z24 z30 z31 z32 z33 z34
  obtain ⟨c00, c01, c02, c03, c04, c10, c11, c12, c13, c14, c20, c21, c22, c23, c24, c30, c31, c32, c33, c34, z20, z21, z22, z23, z24, z30, z31, z32, z33, z34⟩ := hcs
  clear hb2 hz1
  go_wp2_with fail
  refine (unsubscribed_eq _ _ _ _ _ _ _ _ _ _ HD _).mono ?_
  rintro e w3 ⟨rfl, hb3⟩
  have HB3 : Hid (Below w.heap.size w w3) := Lib.hid (below2S HB2.out hb3)
  have hz3 : w.heap.size + 1 + 1 + 1 + 1 ≤ w3.heap.size := Nat.le_trans hz2 hb3.size
  have hcs := act30 hb3 c00 c01 c02 c03 c04 c10 c11 c12 c13 c14 c20 c21 c22 c23 c24 c30 c31 c32 c33 c34 z20 z21 z22 z23 z24 z30 z31 z32 z33 z34
  clear c00 c01 c02 c03 c04 c10 c11 c12 c13 c14 c20 c21 c22 c23 c24 c30 c31 c32 c33 c34 z20 z21 z22 z23 z24 z30 z31 z32 z33 z34
  obtain ⟨c00, c01, c02, c03, c04, c10, c11, c12, c13, c14, c20, c21, c22, c23, c24, c30, c31, c32, c33, c34, z20, z21, z22, z23, z24, z30, z31, z32, z33, z34⟩ := hcs
  clear hb3 hz2
  go_wp2_with fail
  have hb4 : Below w3.heap.size w3 (w3.alloc (.cells #[.bool x1, .bool x2, .bool x3, .bool x4, .bool x5, .bool y1, .bool y2, .bool y3, .bool y4, .bool y5] 97)) := (Below.refl _ _).alloc (Nat.le_refl _) _
  have HB4 : Hid (Below w.heap.size w (w3.alloc (.cells #[.bool x1, .bool x2, .bool x3, .bool x4, .bool x5, .bool y1, .bool y2, .bool y3, .bool y4, .bool y5] 97))) := Lib.hid (below2S HB3.out hb4)
  have hcs := act30 hb4 c00 c01 c02 c03 c04 c10 c11 c12 c13 c14 c20 c21 c22 c23 c24 c30 c31 c32 c33 c34 z20 z21 z22 z23 z24 z30 z31 z32 z33 z34
  clear c00 c01 c02 c03 c04 c10 c11 c12 c13 c14 c20 c21 c22 c23 c24 c30 c31 c32 c33 c34 z20 z21 z22 z23 z24 z30 z31 z32 z33 z34
  obtain ⟨c00, c01, c02, c03, c04, c10, c11, c12, c13, c14, c20, c21, c22, c23, c24, c30, c31, c32, c33, c34, z20, z21, z22, z23, z24, z30, z31, z32, z33, z34⟩ := hcs
  go_region
  try go_wp2_with fail
  obtain ⟨r0, r1, r2, r3, r4, r5, r6, r7, r8, r9⟩ := set10_get (w3.alloc (.cells #[.bool x1, .bool x2, .bool x3, .bool x4, .bool x5, .bool y1, .bool y2, .bool y3, .bool y4, .bool y5] 97)) (w.heap.size + 1 + 1) (w.heap.size + 1 + 1 + 1) (by omega) (.bool x1) (.bool x2) (.bool x3) (.bool x4) (.bool x5) (.bool y1) (.bool y2) (.bool y3) (.bool y4) (.bool y5) _ _ _ _ _ _ _ _ _ _ c20 c21 c22 c23 c24 c30 c31 c32 c33 c34
  have hB := set10_below HB4.out (w.heap.size + 1 + 1) (w.heap.size + 1 + 1 + 1) (by omega) (by omega) (.bool x1) (.bool x2) (.bool x3) (.bool x4) (.bool x5) (.bool y1) (.bool y2) (.bool y3) (.bool y4) (.bool y5)
  show bodyPost _ _ _ _ _ (set10 (w3.alloc (.cells #[.bool x1, .bool x2, .bool x3, .bool x4, .bool x5, .bool y1, .bool y2, .bool y3, .bool y4, .bool y5] 97)) (w.heap.size + 1 + 1) (w.heap.size + 1 + 1 + 1) (.bool x1) (.bool x2) (.bool x3) (.bool x4) (.bool x5) (.bool y1) (.bool y2) (.bool y3) (.bool y4) (.bool y5)).drew
  exact bodyPost_ret (v := actE (⟨x1, x2, x3, x4, x5⟩, ⟨y1, y2, y3, y4, y5⟩, 0)) (by simp [results, Try.results38, go_sem, actE, r0, r1, r2, r3, r4, r5, r6, r7, r8, r9]) rfl ⟨rfl, hB.drew⟩

end Go.Proofs.Ytlckphdmflofgaa
end
