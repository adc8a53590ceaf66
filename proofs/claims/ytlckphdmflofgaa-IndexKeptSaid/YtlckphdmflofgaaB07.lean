/-
  TEXTS OF THE PROOF, one behind the other: SubDo5, SubDo6, SubAct, SubLive, RosCmp, RosHas, RosGet, RosFirst, RosFits, SeqS, RosRow.
-/
import Derived.Test.YtlckphdmflofgaaB04
import Derived.Test.YtlckphdmflofgaaB05
import Derived.Test.YtlckphdmflofgaaB06
import Derived.Test.YtlckphdmflofgaaB03
import Derived.Test.YtlckphdmflofgaaB01

section
/-
  THE CONTRACT OF subs.Act at kind 5, of items that may be.
-/
namespace Go.Proofs.Ytlckphdmflofgaa
open Go.RowKit

theorem block_eq (a1 a2 a3 a4 a5 b1 b2 b3 b4 b5 : Bool) {x1 x2 x3 x4 x5 y1 y2 y3 y4 y5 : Bool} {er : Nat} (h : Hid (suDo ⟨a1, a2, a3, a4, a5⟩ ⟨b1, b2, b3, b4, b5⟩ 5 = (⟨x1, x2, x3, x4, x5⟩, ⟨y1, y2, y3, y4, y5⟩, er))) (w : World) :
    Calls Try.prog 75 #[.agg #[.bool a1, .bool a2, .bool a3, .bool a4, .bool a5, .bool b1, .bool b2, .bool b3, .bool b4, .bool b5]] w fun e w' => e = .returned (.tuple #[.agg #[.bool x1, .bool x2, .bool x3, .bool x4, .bool x5, .bool y1, .bool y2, .bool y3, .bool y4, .bool y5], .int .i64 er]) ∧ Below w.heap.size w w' := by
  have g := block_any a1 a2 a3 a4 a5 b1 b2 b3 b4 b5 w
  rw [h.out] at g
  exact g

set_option maxHeartbeats 3200000 in
set_option maxRecDepth 100000 in
theorem sact_err5 (a1 a2 a3 a4 a5 b1 b2 b3 b4 b5 : Bool) {x1 x2 x3 x4 x5 y1 y2 y3 y4 y5 : Bool} {er : Nat} (he : er ≠ 0) (HM : Hid (suMay ⟨a1, a2, a3, a4, a5⟩ ⟨b1, b2, b3, b4, b5⟩ = true)) (HD : Hid (suDo ⟨a1, a2, a3, a4, a5⟩ ⟨b1, b2, b3, b4, b5⟩ 5 = (⟨x1, x2, x3, x4, x5⟩, ⟨y1, y2, y3, y4, y5⟩, er))) (w : World) :
    Calls Try.prog 38 #[.agg #[.bool a1, .bool a2, .bool a3, .bool a4, .bool a5], .agg #[.bool b1, .bool b2, .bool b3, .bool b4, .bool b5], .int .i64 5] w fun e w' => e = .returned (actE (⟨a1, a2, a3, a4, a5⟩, ⟨b1, b2, b3, b4, b5⟩, er)) ∧ Below w.heap.size w w' := by
  have t1 : ((er : Int) != 0) = true := by rw [bne_iff_ne]; omega
  clear he
  have B0 : Hid (Below w.heap.size w (((((w.alloc (.cells #[.bool a1, .bool a2, .bool a3, .bool a4, .bool a5] 68)).alloc (.cells #[.bool b1, .bool b2, .bool b3, .bool b4, .bool b5] 68)).alloc (.cells #[.bool false, .bool false, .bool false, .bool false, .bool false] 68)).alloc (.cells #[.bool false, .bool false, .bool false, .bool false, .bool false] 68)))) := Lib.hid (((((Below.refl _ _).alloc (Nat.le_refl _) _).alloc (by simp) _).alloc (by simp; omega) _).alloc (by simp; omega) _)
  go_enter Try.func38, Try.ntmps38
  go_wp2_with fail
  refine (kinds_any _).mono ?_
  rintro e w1 ⟨rfl, hf, hb⟩
  have hl0 := hf.look 5 (by decide)
  have hl1 : ∀ B, B = (((((w.alloc (.cells #[.bool a1, .bool a2, .bool a3, .bool a4, .bool a5] 68)).alloc (.cells #[.bool b1, .bool b2, .bool b3, .bool b4, .bool b5] 68)).alloc (.cells #[.bool false, .bool false, .bool false, .bool false, .bool false] 68)).alloc (.cells #[.bool false, .bool false, .bool false, .bool false, .bool false] 68))).heap.size → (Instr.lookup 94 (.map (some B)) (.int .i64 5) true).run Try.prog w1 = .ok (.tuple #[.func (.func 75) #[] #[], .bool true]) w1 := fun B e => by rw [e]; exact hl0
  have hl := hl1 (w.heap.size + 1 + 1 + 1 + 1) (by simp)
  clear hl0 hl1
  have HB1 : Hid (Below w.heap.size w w1) := Lib.hid (below2S B0.out hb)
  have hz1 : w.heap.size + 1 + 1 + 1 + 1 ≤ w1.heap.size := by have := hb.size; simp at this; omega
  obtain ⟨c00, c01, c02, c03, c04, c10, c11, c12, c13, c14, c20, z20, c21, z21, c22, z22, c23, z23, c24, z24, c30, z30, c31, z31, c32, z32, c33, z33, c34, z34⟩ := act_cells hb
  clear hf hb
  go_wp2_with fail
  refine (smay_eq _ _ _ _ _ _ _ _ _ _ HM _).mono ?_
  rintro e w2 ⟨rfl, rfl⟩
  obtain ⟨w2, hw2⟩ : ∃ w2, w2 = (w1.alloc (.cells #[.bool a1, .bool a2, .bool a3, .bool a4, .bool a5] 68)).alloc (.cells #[.bool b1, .bool b2, .bool b3, .bool b4, .bool b5] 68) := ⟨_, rfl⟩
  rw [← hw2]
  have hb2 : Below w1.heap.size w1 w2 := by rw [hw2]; exact ((Below.refl _ _).alloc (Nat.le_refl _) _).alloc (by simp) _
  have HB2 : Hid (Below w.heap.size w w2) := Lib.hid (below2S HB1.out hb2)
  have hz2 : w.heap.size + 1 + 1 + 1 + 1 ≤ w2.heap.size := Nat.le_trans hz1 hb2.size
  clear hw2
  have hcs := act30 hb2 c00 c01 c02 c03 c04 c10 c11 c12 c13 c14 c20 c21 c22 c23 c24 c30 c31 c32 c33 c34 z20 z21 z22 z23 z24 z30 z31 z32 z33 z34
  clear c00 c01 c02 c03 c04 c10 c11 c12 c13 c14 c20 c21 c22 c23 c24 c30 c31 c32 c33 c34 z20 z21 z22 z23 z24 z30 z31 z32 z33 z34
  obtain ⟨c00, c01, c02, c03, c04, c10, c11, c12, c13, c14, c20, c21, c22, c23, c24, c30, c31, c32, c33, c34, z20, z21, z22, z23, z24, z30, z31, z32, z33, z34⟩ := hcs
  clear hb2 hz1
  go_wp2_with fail
  refine (block_eq _ _ _ _ _ _ _ _ _ _ HD _).mono ?_
  rintro e w3 ⟨rfl, hb3⟩
  have HB3 : Hid (Below w.heap.size w w3) := Lib.hid (below2S HB2.out hb3)
  have hz3 : w.heap.size + 1 + 1 + 1 + 1 ≤ w3.heap.size := Nat.le_trans hz2 hb3.size
  have hcs := act30 hb3 c00 c01 c02 c03 c04 c10 c11 c12 c13 c14 c20 c21 c22 c23 c24 c30 c31 c32 c33 c34 z20 z21 z22 z23 z24 z30 z31 z32 z33 z34
  clear c00 c01 c02 c03 c04 c10 c11 c12 c13 c14 c20 c21 c22 c23 c24 c30 c31 c32 c33 c34 z20 z21 z22 z23 z24 z30 z31 z32 z33 z34
  obtain ⟨c00, c01, c02, c03, c04, c10, c11, c12, c13, c14, c20, c21, c22, c23, c24, c30, c31, c32, c33, c34, z20, z21, z22, z23, z24, z30, z31, z32, z33, z34⟩ := hcs
  clear hb3 hz2
  go_wp2_with fail
  have hb4 : Below w3.heap.size w3 (w3.alloc (.cells #[.bool x1, .bool x2, .bool x3, .bool x4, .bool x5, .bool y1, .bool y2, .bool y3, .bool y4, .bool y5] 97)) := (Below.refl _ _).alloc (Nat.le_refl _) _
  have HB4 : Hid (Below w.heap.size w (w3.alloc (.cells #[.bool x1, .bool x2, .bool x3, .bool x4, .bool x5, .bool y1, .bool y2, .bool y3, .bool y4, .bool y5] 97))) := Lib.hid (below2S HB3.out hb4)
  have hcs := act30 hb4 c00 c01 c02 c03 c04 c10 c11 c12 c13 c14 c20 c21 c22 c23 c24 c30 c31 c32 c33 c34 z20 z21 z22 z23 z24 z30 z31 z32 z33 z34
  clear c00 c01 c02 c03 c04 c10 c11 c12 c13 c14 c20 c21 c22 c23 c24 c30 c31 c32 c33 c34 z20 z21 z22 z23 z24 z30 z31 z32 z33 z34
  obtain ⟨c00, c01, c02, c03, c04, c10, c11, c12, c13, c14, c20, c21, c22, c23, c24, c30, c31, c32, c33, c34, z20, z21, z22, z23, z24, z30, z31, z32, z33, z34⟩ := hcs
  go_region
  try go_wp2_with fail
  obtain ⟨r0, r1, r2, r3, r4, r5, r6, r7, r8, r9⟩ := set10_get (w3.alloc (.cells #[.bool x1, .bool x2, .bool x3, .bool x4, .bool x5, .bool y1, .bool y2, .bool y3, .bool y4, .bool y5] 97)) (w.heap.size + 1 + 1) (w.heap.size + 1 + 1 + 1) (by omega) (.bool a1) (.bool a2) (.bool a3) (.bool a4) (.bool a5) (.bool b1) (.bool b2) (.bool b3) (.bool b4) (.bool b5) _ _ _ _ _ _ _ _ _ _ c20 c21 c22 c23 c24 c30 c31 c32 c33 c34
  have hB := set10_below HB4.out (w.heap.size + 1 + 1) (w.heap.size + 1 + 1 + 1) (by omega) (by omega) (.bool a1) (.bool a2) (.bool a3) (.bool a4) (.bool a5) (.bool b1) (.bool b2) (.bool b3) (.bool b4) (.bool b5)
  show bodyPost _ _ _ _ _ (set10 (w3.alloc (.cells #[.bool x1, .bool x2, .bool x3, .bool x4, .bool x5, .bool y1, .bool y2, .bool y3, .bool y4, .bool y5] 97)) (w.heap.size + 1 + 1) (w.heap.size + 1 + 1 + 1) (.bool a1) (.bool a2) (.bool a3) (.bool a4) (.bool a5) (.bool b1) (.bool b2) (.bool b3) (.bool b4) (.bool b5)).drew
  exact bodyPost_ret (v := actE (⟨a1, a2, a3, a4, a5⟩, ⟨b1, b2, b3, b4, b5⟩, er)) (by simp [results, Try.results38, go_sem, actE, r0, r1, r2, r3, r4, r5, r6, r7, r8, r9]) rfl ⟨rfl, hB.drew⟩

set_option maxHeartbeats 3200000 in
set_option maxRecDepth 100000 in
theorem sact_ok5 (a1 a2 a3 a4 a5 b1 b2 b3 b4 b5 : Bool) {x1 x2 x3 x4 x5 y1 y2 y3 y4 y5 : Bool} (HM : Hid (suMay ⟨a1, a2, a3, a4, a5⟩ ⟨b1, b2, b3, b4, b5⟩ = true)) (HD : Hid (suDo ⟨a1, a2, a3, a4, a5⟩ ⟨b1, b2, b3, b4, b5⟩ 5 = (⟨x1, x2, x3, x4, x5⟩, ⟨y1, y2, y3, y4, y5⟩, 0))) (w : World) :
    Calls Try.prog 38 #[.agg #[.bool a1, .bool a2, .bool a3, .bool a4, .bool a5], .agg #[.bool b1, .bool b2, .bool b3, .bool b4, .bool b5], .int .i64 5] w fun e w' => e = .returned (actE (⟨x1, x2, x3, x4, x5⟩, ⟨y1, y2, y3, y4, y5⟩, 0)) ∧ Below w.heap.size w w' := by
  have B0 : Hid (Below w.heap.size w (((((w.alloc (.cells #[.bool a1, .bool a2, .bool a3, .bool a4, .bool a5] 68)).alloc (.cells #[.bool b1, .bool b2, .bool b3, .bool b4, .bool b5] 68)).alloc (.cells #[.bool false, .bool false, .bool false, .bool false, .bool false] 68)).alloc (.cells #[.bool false, .bool false, .bool false, .bool false, .bool false] 68)))) := Lib.hid (((((Below.refl _ _).alloc (Nat.le_refl _) _).alloc (by simp) _).alloc (by simp; omega) _).alloc (by simp; omega) _)
  go_enter Try.func38, Try.ntmps38
  go_wp2_with fail
  refine (kinds_any _).mono ?_
  rintro e w1 ⟨rfl, hf, hb⟩
  have hl0 := hf.look 5 (by decide)
  have hl1 : ∀ B, B = (((((w.alloc (.cells #[.bool a1, .bool a2, .bool a3, .bool a4, .bool a5] 68)).alloc (.cells #[.bool b1, .bool b2, .bool b3, .bool b4, .bool b5] 68)).alloc (.cells #[.bool false, .bool false, .bool false, .bool false, .bool false] 68)).alloc (.cells #[.bool false, .bool false, .bool false, .bool false, .bool false] 68))).heap.size → (Instr.lookup 94 (.map (some B)) (.int .i64 5) true).run Try.prog w1 = .ok (.tuple #[.func (.func 75) #[] #[], .bool true]) w1 := fun B e => by rw [e]; exact hl0
  have hl := hl1 (w.heap.size + 1 + 1 + 1 + 1) (by simp)
  clear hl0 hl1
  have HB1 : Hid (Below w.heap.size w w1) := Lib.hid (below2S B0.out hb)
  have hz1 : w.heap.size + 1 + 1 + 1 + 1 ≤ w1.heap.size := by have := hb.size; simp at this; omega
  obtain ⟨c00, c01, c02, c03, c04, c10, c11, c12, c13, c14, c20, z20, c21, z21, c22, z22, c23, z23, c24, z24, c30, z30, c31, z31, c32, z32, c33, z33, c34, z34⟩ := act_cells hb
  clear hf hb
  go_wp2_with fail
  refine (smay_eq _ _ _ _ _ _ _ _ _ _ HM _).mono ?_
  rintro e w2 ⟨rfl, rfl⟩
  obtain ⟨w2, hw2⟩ : ∃ w2, w2 = (w1.alloc (.cells #[.bool a1, .bool a2, .bool a3, .bool a4, .bool a5] 68)).alloc (.cells #[.bool b1, .bool b2, .bool b3, .bool b4, .bool b5] 68) := ⟨_, rfl⟩
  rw [← hw2]
  have hb2 : Below w1.heap.size w1 w2 := by rw [hw2]; exact ((Below.refl _ _).alloc (Nat.le_refl _) _).alloc (by simp) _
  have HB2 : Hid (Below w.heap.size w w2) := Lib.hid (below2S HB1.out hb2)
  have hz2 : w.heap.size + 1 + 1 + 1 + 1 ≤ w2.heap.size := Nat.le_trans hz1 hb2.size
  clear hw2
  have hcs := act30 hb2 c00 c01 c02 c03 c04 c10 c11 c12 c13 c14 c20 c21 c22 c23 c24 c30 c31 c32 c33 c34 z20 z21 z22 z23 z24 z30 z31 z32 z33 z34
  clear c00 c01 c02 c03 c04 c10 c11 c12 c13 c14 c20 c21 c22 c23 c24 c30 c31 c32 c33 c34 z20 z21 z22 z23 z24 z30 z31 z32 z33 z34
  obtain ⟨c00, c01, c02, c03, c04, c10, c11, c12, c13, c14, c20, c21, c22, c23, c24, c30, c31, c32, c33, c34, z20, z21, z22, z23, z24, z30, z31, z32, z33, z34⟩ := hcs
  clear hb2 hz1
  go_wp2_with fail
  refine (block_eq _ _ _ _ _ _ _ _ _ _ HD _).mono ?_
  rintro e w3 ⟨rfl, hb3⟩
  have HB3 : Hid (Below w.heap.size w w3) := Lib.hid (below2S HB2.out hb3)
  have hz3 : w.heap.size + 1 + 1 + 1 + 1 ≤ w3.heap.size := Nat.le_trans hz2 hb3.size
  have hcs := act30 hb3 c00 c01 c02 c03 c04 c10 c11 c12 c13 c14 c20 c21 c22 c23 c24 c30 c31 c32 c33 c34 z20 z21 z22 z23 z24 z30 z31 z32 z33 z34
  clear c00 c01 c02 c03 c04 c10 c11 c12 c13 c14 c20 c21 c22 c23 c24 c30 c31 c32 c33 c34 z20 z21 z22 z23 z24 z30 z31 z32 z33 z34
  obtain ⟨c00, c01, c02, c03, c04, c10, c11, c12, c13, c14, c20, c21, c22, c23, c24, c30, c31, c32, c33, c34, z20, z21, z22, z23, z24, z30, z31, z32, z33, z34⟩ := hcs
  clear hb3 hz2
  go_wp2_with fail
  have hb4 : Below w3.heap.size w3 (w3.alloc (.cells #[.bool x1, .bool x2, .bool x3, .bool x4, .bool x5, .bool y1, .bool y2, .bool y3, .bool y4, .bool y5] 97)) := (Below.refl _ _).alloc (Nat.le_refl _) _
  have HB4 : Hid (Below w.heap.size w (w3.alloc (.cells #[.bool x1, .bool x2, .bool x3, .bool x4, .bool x5, .bool y1, .bool y2, .bool y3, .bool y4, .bool y5] 97))) := Lib.hid (below2S HB3.out hb4)
  have hcs := act30 hb4 c00 c01 c02 c03 c04 c10 c11 c12 c13 c14 c20 c21 c22 c23 c24 c30 c31 c32 c33 c34 z20 z21 z22 z23 z24 z30 z31 z32 z33 z34
  clear c00 c01 c02 c03 c04 c10 c11 c12 c13 c14 c20 c21 c22 c23 c24 c30 c31 c32 c33 c34 z20 z21 z22 z23 z24 z30 z31 z32 z33 z34
  obtain ⟨c00, c01, c02, c03, c04, c10, c11, c12, c13, c14, c20, c21, c22, c23, c24, c30, c31, c32, c33, c34, z20, z21, z22, z23, z24, z30, z31, z32, z33, z34⟩ := hcs
  go_region
  try go_wp2_with fail
  obtain ⟨r0, r1, r2, r3, r4, r5, r6, r7, r8, r9⟩ := set10_get (w3.alloc (.cells #[.bool x1, .bool x2, .bool x3, .bool x4, .bool x5, .bool y1, .bool y2, .bool y3, .bool y4, .bool y5] 97)) (w.heap.size + 1 + 1) (w.heap.size + 1 + 1 + 1) (by omega) (.bool x1) (.bool x2) (.bool x3) (.bool x4) (.bool x5) (.bool y1) (.bool y2) (.bool y3) (.bool y4) (.bool y5) _ _ _ _ _ _ _ _ _ _ c20 c21 c22 c23 c24 c30 c31 c32 c33 c34
  have hB := set10_below HB4.out (w.heap.size + 1 + 1) (w.heap.size + 1 + 1 + 1) (by omega) (by omega) (.bool x1) (.bool x2) (.bool x3) (.bool x4) (.bool x5) (.bool y1) (.bool y2) (.bool y3) (.bool y4) (.bool y5)
  show bodyPost _ _ _ _ _ (set10 (w3.alloc (.cells #[.bool x1, .bool x2, .bool x3, .bool x4, .bool x5, .bool y1, .bool y2, .bool y3, .bool y4, .bool y5] 97)) (w.heap.size + 1 + 1) (w.heap.size + 1 + 1 + 1) (.bool x1) (.bool x2) (.bool x3) (.bool x4) (.bool x5) (.bool y1) (.bool y2) (.bool y3) (.bool y4) (.bool y5)).drew
  exact bodyPost_ret (v := actE (⟨x1, x2, x3, x4, x5⟩, ⟨y1, y2, y3, y4, y5⟩, 0)) (by simp [results, Try.results38, go_sem, actE, r0, r1, r2, r3, r4, r5, r6, r7, r8, r9]) rfl ⟨rfl, hB.drew⟩

end Go.Proofs.Ytlckphdmflofgaa
end

section
/-
  THE CONTRACT OF subs.Act at kind 6, of items that may be.
-/
namespace Go.Proofs.Ytlckphdmflofgaa
open Go.RowKit

theorem unblock_eq (a1 a2 a3 a4 a5 b1 b2 b3 b4 b5 : Bool) {x1 x2 x3 x4 x5 y1 y2 y3 y4 y5 : Bool} {er : Nat} (h : Hid (suDo ⟨a1, a2, a3, a4, a5⟩ ⟨b1, b2, b3, b4, b5⟩ 6 = (⟨x1, x2, x3, x4, x5⟩, ⟨y1, y2, y3, y4, y5⟩, er))) (w : World) :
    Calls Try.prog 76 #[.agg #[.bool a1, .bool a2, .bool a3, .bool a4, .bool a5, .bool b1, .bool b2, .bool b3, .bool b4, .bool b5]] w fun e w' => e = .returned (.tuple #[.agg #[.bool x1, .bool x2, .bool x3, .bool x4, .bool x5, .bool y1, .bool y2, .bool y3, .bool y4, .bool y5], .int .i64 er]) ∧ Below w.heap.size w w' := by
  have g := unblock_any a1 a2 a3 a4 a5 b1 b2 b3 b4 b5 w
  rw [h.out] at g
  exact g

set_option maxHeartbeats 3200000 in
set_option maxRecDepth 100000 in
theorem sact_err6 (a1 a2 a3 a4 a5 b1 b2 b3 b4 b5 : Bool) {x1 x2 x3 x4 x5 y1 y2 y3 y4 y5 : Bool} {er : Nat} (he : er ≠ 0) (HM : Hid (suMay ⟨a1, a2, a3, a4, a5⟩ ⟨b1, b2, b3, b4, b5⟩ = true)) (HD : Hid (suDo ⟨a1, a2, a3, a4, a5⟩ ⟨b1, b2, b3, b4, b5⟩ 6 = (⟨x1, x2, x3, x4, x5⟩, ⟨y1, y2, y3, y4, y5⟩, er))) (w : World) :
    Calls Try.prog 38 #[.agg #[.bool a1, .bool a2, .bool a3, .bool a4, .bool a5], .agg #[.bool b1, .bool b2, .bool b3, .bool b4, .bool b5], .int .i64 6] w fun e w' => e = .returned (actE (⟨a1, a2, a3, a4, a5⟩, ⟨b1, b2, b3, b4, b5⟩, er)) ∧ Below w.heap.size w w' := by
  have t1 : ((er : Int) != 0) = true := by rw [bne_iff_ne]; omega
  clear he
  have B0 : Hid (Below w.heap.size w (((((w.alloc (.cells #[.bool a1, .bool a2, .bool a3, .bool a4, .bool a5] 68)).alloc (.cells #[.bool b1, .bool b2, .bool b3, .bool b4, .bool b5] 68)).alloc (.cells #[.bool false, .bool false, .bool false, .bool false, .bool false] 68)).alloc (.cells #[.bool false, .bool false, .bool false, .bool false, .bool false] 68)))) := Lib.hid (((((Below.refl _ _).alloc (Nat.le_refl _) _).alloc (by simp) _).alloc (by simp; omega) _).alloc (by simp; omega) _)
  go_enter Try.func38, Try.ntmps38
  go_wp2_with fail
  refine (kinds_any _).mono ?_
  rintro e w1 ⟨rfl, hf, hb⟩
  have hl0 := hf.look 6 (by decide)
  have hl1 : ∀ B, B = (((((w.alloc (.cells #[.bool a1, .bool a2, .bool a3, .bool a4, .bool a5] 68)).alloc (.cells #[.bool b1, .bool b2, .bool b3, .bool b4, .bool b5] 68)).alloc (.cells #[.bool false, .bool false, .bool false, .bool false, .bool false] 68)).alloc (.cells #[.bool false, .bool false, .bool false, .bool false, .bool false] 68))).heap.size → (Instr.lookup 94 (.map (some B)) (.int .i64 6) true).run Try.prog w1 = .ok (.tuple #[.func (.func 76) #[] #[], .bool true]) w1 := fun B e => by rw [e]; exact hl0
  have hl := hl1 (w.heap.size + 1 + 1 + 1 + 1) (by simp)
  clear hl0 hl1
  have HB1 : Hid (Below w.heap.size w w1) := Lib.hid (below2S B0.out hb)
  have hz1 : w.heap.size + 1 + 1 + 1 + 1 ≤ w1.heap.size := by have := hb.size; simp at this; omega
  obtain ⟨c00, c01, c02, c03, c04, c10, c11, c12, c13, c14, c20, z20, c21, z21, c22, z22, c23, z23, c24, z24, c30, z30, c31, z31, c32, z32, c33, z33, c34, z34⟩ := act_cells hb
  clear hf hb
  go_wp2_with fail
  refine (smay_eq _ _ _ _ _ _ _ _ _ _ HM _).mono ?_
  rintro e w2 ⟨rfl, rfl⟩
  obtain ⟨w2, hw2⟩ : ∃ w2, w2 = (w1.alloc (.cells #[.bool a1, .bool a2, .bool a3, .bool a4, .bool a5] 68)).alloc (.cells #[.bool b1, .bool b2, .bool b3, .bool b4, .bool b5] 68) := ⟨_, rfl⟩
  rw [← hw2]
  have hb2 : Below w1.heap.size w1 w2 := by rw [hw2]; exact ((Below.refl _ _).alloc (Nat.le_refl _) _).alloc (by simp) _
  have HB2 : Hid (Below w.heap.size w w2) := Lib.hid (below2S HB1.out hb2)
  have hz2 : w.heap.size + 1 + 1 + 1 + 1 ≤ w2.heap.size := Nat.le_trans hz1 hb2.size
  clear hw2
  have hcs := act30 hb2 c00 c01 c02 c03 c04 c10 c11 c12 c13 c14 c20 c21 c22 c23 c24 c30 c31 c32 c33 c34 z20 z21 z22 z23 z24 z30 z31 z32 z33 z34
  clear c00 c01 c02 c03 c04 c10 c11 c12 c13 c14 c20 c21 c22 c23 c24 c30 c31 c32 c33 c34 z20 z21 z22 z23 z24 z30 z31 z32 z33 z34
  obtain ⟨c00, c01, c02, c03, c04, c10, c11, c12, c13, c14, c20, c21, c22, c23, c24, c30, c31, c32, c33, c34, z20, z21, z22, z23, z24, z30, z31, z32, z33, z34⟩ := hcs
  clear hb2 hz1
  go_wp2_with fail
  refine (unblock_eq _ _ _ _ _ _ _ _ _ _ HD _).mono ?_
  rintro e w3 ⟨rfl, hb3⟩
  have HB3 : Hid (Below w.heap.size w w3) := Lib.hid (below2S HB2.out hb3)
  have hz3 : w.heap.size + 1 + 1 + 1 + 1 ≤ w3.heap.size := Nat.le_trans hz2 hb3.size
  have hcs := act30 hb3 c00 c01 c02 c03 c04 c10 c11 c12 c13 c14 c20 c21 c22 c23 c24 c30 c31 c32 c33 c34 z20 z21 z22 z23 z24 z30 z31 z32 z33 z34
  clear c00 c01 c02 c03 c04 c10 c11 c12 c13 c14 c20 c21 c22 c23 c24 c30 c31 c32 c33 c34 z20 z21 z22 z23 z24 z30 z31 z32 z33 z34
  obtain ⟨c00, c01, c02, c03, c04, c10, c11, c12, c13, c14, c20, c21, c22, c23, c24, c30, c31, c32, c33, c34, z20, z21, z22, z23, z24, z30, z31, z32, z33, z34⟩ := hcs
  clear hb3 hz2
  go_wp2_with fail
  have hb4 : Below w3.heap.size w3 (w3.alloc (.cells #[.bool x1, .bool x2, .bool x3, .bool x4, .bool x5, .bool y1, .bool y2, .bool y3, .bool y4, .bool y5] 97)) := (Below.refl _ _).alloc (Nat.le_refl _) _
  have HB4 : Hid (Below w.heap.size w (w3.alloc (.cells #[.bool x1, .bool x2, .bool x3, .bool x4, .bool x5, .bool y1, .bool y2, .bool y3, .bool y4, .bool y5] 97))) := Lib.hid (below2S HB3.out hb4)
  have hcs := act30 hb4 c00 c01 c02 c03 c04 c10 c11 c12 c13 c14 c20 c21 c22 c23 c24 c30 c31 c32 c33 c34 z20 z21 z22 z23 z24 z30 z31 z32 z33 z34
  clear c00 c01 c02 c03 c04 c10 c11 c12 c13 c14 c20 c21 c22 c23 c24 c30 c31 c32 c33 c34 z20 z21 z22 z23 z24 z30 z31 z32 z33 z34
  obtain ⟨c00, c01, c02, c03, c04, c10, c11, c12, c13, c14, c20, c21, c22, c23, c24, c30, c31, c32, c33, c34, z20, z21, z22, z23, z24, z30, z31, z32, z33, z34⟩ := hcs
  go_region
  try go_wp2_with fail
  obtain ⟨r0, r1, r2, r3, r4, r5, r6, r7, r8, r9⟩ := set10_get (w3.alloc (.cells #[.bool x1, .bool x2, .bool x3, .bool x4, .bool x5, .bool y1, .bool y2, .bool y3, .bool y4, .bool y5] 97)) (w.heap.size + 1 + 1) (w.heap.size + 1 + 1 + 1) (by omega) (.bool a1) (.bool a2) (.bool a3) (.bool a4) (.bool a5) (.bool b1) (.bool b2) (.bool b3) (.bool b4) (.bool b5) _ _ _ _ _ _ _ _ _ _ c20 c21 c22 c23 c24 c30 c31 c32 c33 c34
  have hB := set10_below HB4.out (w.heap.size + 1 + 1) (w.heap.size + 1 + 1 + 1) (by omega) (by omega) (.bool a1) (.bool a2) (.bool a3) (.bool a4) (.bool a5) (.bool b1) (.bool b2) (.bool b3) (.bool b4) (.bool b5)
  show bodyPost _ _ _ _ _ (set10 (w3.alloc (.cells #[.bool x1, .bool x2, .bool x3, .bool x4, .bool x5, .bool y1, .bool y2, .bool y3, .bool y4, .bool y5] 97)) (w.heap.size + 1 + 1) (w.heap.size + 1 + 1 + 1) (.bool a1) (.bool a2) (.bool a3) (.bool a4) (.bool a5) (.bool b1) (.bool b2) (.bool b3) (.bool b4) (.bool b5)).drew
  exact bodyPost_ret (v := actE (⟨a1, a2, a3, a4, a5⟩, ⟨b1, b2, b3, b4, b5⟩, er)) (by simp [results, Try.results38, go_sem, actE, r0, r1, r2, r3, r4, r5, r6, r7, r8, r9]) rfl ⟨rfl, hB.drew⟩

set_option maxHeartbeats 3200000 in
set_option maxRecDepth 100000 in
theorem sact_ok6 (a1 a2 a3 a4 a5 b1 b2 b3 b4 b5 : Bool) {x1 x2 x3 x4 x5 y1 y2 y3 y4 y5 : Bool} (HM : Hid (suMay ⟨a1, a2, a3, a4, a5⟩ ⟨b1, b2, b3, b4, b5⟩ = true)) (HD : Hid (suDo ⟨a1, a2, a3, a4, a5⟩ ⟨b1, b2, b3, b4, b5⟩ 6 = (⟨x1, x2, x3, x4, x5⟩, ⟨y1, y2, y3, y4, y5⟩, 0))) (w : World) :
    Calls Try.prog 38 #[.agg #[.bool a1, .bool a2, .bool a3, .bool a4, .bool a5], .agg #[.bool b1, .bool b2, .bool b3, .bool b4, .bool b5], .int .i64 6] w fun e w' => e = .returned (actE (⟨x1, x2, x3, x4, x5⟩, ⟨y1, y2, y3, y4, y5⟩, 0)) ∧ Below w.heap.size w w' := by
  have B0 : Hid (Below w.heap.size w (((((w.alloc (.cells #[.bool a1, .bool a2, .bool a3, .bool a4, .bool a5] 68)).alloc (.cells #[.bool b1, .bool b2, .bool b3, .bool b4, .bool b5] 68)).alloc (.cells #[.bool false, .bool false, .bool false, .bool false, .bool false] 68)).alloc (.cells #[.bool false, .bool false, .bool false, .bool false, .bool false] 68)))) := Lib.hid (((((Below.refl _ _).alloc (Nat.le_refl _) _).alloc (by simp) _).alloc (by simp; omega) _).alloc (by simp; omega) _)
  go_enter Try.func38, Try.ntmps38
  go_wp2_with fail
  refine (kinds_any _).mono ?_
  rintro e w1 ⟨rfl, hf, hb⟩
  have hl0 := hf.look 6 (by decide)
  have hl1 : ∀ B, B = (((((w.alloc (.cells #[.bool a1, .bool a2, .bool a3, .bool a4, .bool a5] 68)).alloc (.cells #[.bool b1, .bool b2, .bool b3, .bool b4, .bool b5] 68)).alloc (.cells #[.bool false, .bool false, .bool false, .bool false, .bool false] 68)).alloc (.cells #[.bool false, .bool false, .bool false, .bool false, .bool false] 68))).heap.size → (Instr.lookup 94 (.map (some B)) (.int .i64 6) true).run Try.prog w1 = .ok (.tuple #[.func (.func 76) #[] #[], .bool true]) w1 := fun B e => by rw [e]; exact hl0
  have hl := hl1 (w.heap.size + 1 + 1 + 1 + 1) (by simp)
  clear hl0 hl1
  have HB1 : Hid (Below w.heap.size w w1) := Lib.hid (below2S B0.out hb)
  have hz1 : w.heap.size + 1 + 1 + 1 + 1 ≤ w1.heap.size := by have := hb.size; simp at this; omega
  obtain ⟨c00, c01, c02, c03, c04, c10, c11, c12, c13, c14, c20, z20, c21, z21, c22, z22, c23, z23, c24, z24, c30, z30, c31, z31, c32, z32, c33, z33, c34, z34⟩ := act_cells hb
  clear hf hb
  go_wp2_with fail
  refine (smay_eq _ _ _ _ _ _ _ _ _ _ HM _).mono ?_
  rintro e w2 ⟨rfl, rfl⟩
  obtain ⟨w2, hw2⟩ : ∃ w2, w2 = (w1.alloc (.cells #[.bool a1, .bool a2, .bool a3, .bool a4, .bool a5] 68)).alloc (.cells #[.bool b1, .bool b2, .bool b3, .bool b4, .bool b5] 68) := ⟨_, rfl⟩
  rw [← hw2]
  have hb2 : Below w1.heap.size w1 w2 := by rw [hw2]; exact ((Below.refl _ _).alloc (Nat.le_refl _) _).alloc (by simp) _
  have HB2 : Hid (Below w.heap.size w w2) := Lib.hid (below2S HB1.out hb2)
  have hz2 : w.heap.size + 1 + 1 + 1 + 1 ≤ w2.heap.size := Nat.le_trans hz1 hb2.size
  clear hw2
  have hcs := act30 hb2 c00 c01 c02 c03 c04 c10 c11 c12 c13 c14 c20 c21 c22 c23 c24 c30 c31 c32 c33 c34 z20 z21 z22 z23 z24 z30 z31 z32 z33 z34
  clear c00 c01 c02 c03 c04 c10 c11 c12 c13 c14 c20 c21 c22 c23 c24 c30 c31 c32 c33 c34 z20 z21 z22 z23 z24 z30 z31 z32 z33 z34
  obtain ⟨c00, c01, c02, c03, c04, c10, c11, c12, c13, c14, c20, c21, c22, c23, c24, c30, c31, c32, c33, c34, z20, z21, z22, z23, z24, z30, z31, z32, z33, z34⟩ := hcs
  clear hb2 hz1
  go_wp2_with fail
  refine (unblock_eq _ _ _ _ _ _ _ _ _ _ HD _).mono ?_
  rintro e w3 ⟨rfl, hb3⟩
  have HB3 : Hid (Below w.heap.size w w3) := Lib.hid (below2S HB2.out hb3)
  have hz3 : w.heap.size + 1 + 1 + 1 + 1 ≤ w3.heap.size := Nat.le_trans hz2 hb3.size
  have hcs := act30 hb3 c00 c01 c02 c03 c04 c10 c11 c12 c13 c14 c20 c21 c22 c23 c24 c30 c31 c32 c33 c34 z20 z21 z22 z23 z24 z30 z31 z32 z33 z34
  clear c00 c01 c02 c03 c04 c10 c11 c12 c13 c14 c20 c21 c22 c23 c24 c30 c31 c32 c33 c34 z20 z21 z22 z23 z24 z30 z31 z32 z33 z34
  obtain ⟨c00, c01, c02, c03, c04, c10, c11, c12, c13, c14, c20, c21, c22, c23, c24, c30, c31, c32, c33, c34, z20, z21, z22, z23, z24, z30, z31, z32, z33, z34⟩ := hcs
  clear hb3 hz2
  go_wp2_with fail
  have hb4 : Below w3.heap.size w3 (w3.alloc (.cells #[.bool x1, .bool x2, .bool x3, .bool x4, .bool x5, .bool y1, .bool y2, .bool y3, .bool y4, .bool y5] 97)) := (Below.refl _ _).alloc (Nat.le_refl _) _
  have HB4 : Hid (Below w.heap.size w (w3.alloc (.cells #[.bool x1, .bool x2, .bool x3, .bool x4, .bool x5, .bool y1, .bool y2, .bool y3, .bool y4, .bool y5] 97))) := Lib.hid (below2S HB3.out hb4)
  have hcs := act30 hb4 c00 c01 c02 c03 c04 c10 c11 c12 c13 c14 c20 c21 c22 c23 c24 c30 c31 c32 c33 c34 z20 z21 z22 z23 z24 z30 z31 z32 z33 z34
  clear c00 c01 c02 c03 c04 c10 c11 c12 c13 c14 c20 c21 c22 c23 c24 c30 c31 c32 c33 c34 z20 z21 z22 z23 z24 z30 z31 z32 z33 z34
  obtain ⟨c00, c01, c02, c03, c04, c10, c11, c12, c13, c14, c20, c21, c22, c23, c24, c30, c31, c32, c33, c34, z20, z21, z22, z23, z24, z30, z31, z32, z33, z34⟩ := hcs
  go_region
  try go_wp2_with fail
  obtain ⟨r0, r1, r2, r3, r4, r5, r6, r7, r8, r9⟩ := set10_get (w3.alloc (.cells #[.bool x1, .bool x2, .bool x3, .bool x4, .bool x5, .bool y1, .bool y2, .bool y3, .bool y4, .bool y5] 97)) (w.heap.size + 1 + 1) (w.heap.size + 1 + 1 + 1) (by omega) (.bool x1) (.bool x2) (.bool x3) (.bool x4) (.bool x5) (.bool y1) (.bool y2) (.bool y3) (.bool y4) (.bool y5) _ _ _ _ _ _ _ _ _ _ c20 c21 c22 c23 c24 c30 c31 c32 c33 c34
  have hB := set10_below HB4.out (w.heap.size + 1 + 1) (w.heap.size + 1 + 1 + 1) (by omega) (by omega) (.bool x1) (.bool x2) (.bool x3) (.bool x4) (.bool x5) (.bool y1) (.bool y2) (.bool y3) (.bool y4) (.bool y5)
  show bodyPost _ _ _ _ _ (set10 (w3.alloc (.cells #[.bool x1, .bool x2, .bool x3, .bool x4, .bool x5, .bool y1, .bool y2, .bool y3, .bool y4, .bool y5] 97)) (w.heap.size + 1 + 1) (w.heap.size + 1 + 1 + 1) (.bool x1) (.bool x2) (.bool x3) (.bool x4) (.bool x5) (.bool y1) (.bool y2) (.bool y3) (.bool y4) (.bool y5)).drew
  exact bodyPost_ret (v := actE (⟨x1, x2, x3, x4, x5⟩, ⟨y1, y2, y3, y4, y5⟩, 0)) (by simp [results, Try.results38, go_sem, actE, r0, r1, r2, r3, r4, r5, r6, r7, r8, r9]) rfl ⟨rfl, hB.drew⟩

end Go.Proofs.Ytlckphdmflofgaa
end

section
/-
  THE CONTRACTS OF subs.Act AND OF THE DOCUMENT'S Act, whatever is done.
-/
namespace Go.Proofs.Ytlckphdmflofgaa
open Go.RowKit

theorem suDo_shape (a b : It) (k : Int) : ∃ x1 x2 x3 x4 x5 y1 y2 y3 y4 y5 er, suDo a b k = (⟨x1, x2, x3, x4, x5⟩, ⟨y1, y2, y3, y4, y5⟩, er) := by
  obtain ⟨⟨x1, x2, x3, x4, x5⟩, ⟨y1, y2, y3, y4, y5⟩, er⟩ := suDo a b k
  exact ⟨x1, x2, x3, x4, x5, y1, y2, y3, y4, y5, er, rfl⟩

theorem suDo_err {a b : It} {k : Int} {x y : It} {er : Nat} (hm : suMay a b = true) (h1 : 1 ≤ k) (h6 : k ≤ 6) (h : suDo a b k = (x, y, er)) (he : er ≠ 0) : x = a ∧ y = b :=
  suAct_err (k := k) (e := er) (by unfold suAct; rw [if_pos ⟨hm, h1, h6⟩]; exact h) he

theorem suAct_in {a b : It} {k : Int} (hm : suMay a b = true) (h1 : 1 ≤ k) (h6 : k ≤ 6) : suAct a b k = suDo a b k := by
  unfold suAct
  rw [if_pos ⟨hm, h1, h6⟩]

theorem suAct_low {a b : It} {k : Int} (h : k < 1 ∨ 6 < k) : suAct a b k = (a, b, 1) := by
  unfold suAct
  rw [if_neg (fun h' => by omega)]

theorem suAct_not {a b : It} {k : Int} (h : suMay a b = false) : suAct a b k = (a, b, 1) := by
  unfold suAct
  rw [if_neg (fun h' => by rw [h] at h'; simp at h')]

theorem sact_any (a1 a2 a3 a4 a5 b1 b2 b3 b4 b5 : Bool) (k : Int) (hk : (Lit.int .i64 k).wf = true) (w : World) :
    Calls Try.prog 38 #[.agg #[.bool a1, .bool a2, .bool a3, .bool a4, .bool a5], .agg #[.bool b1, .bool b2, .bool b3, .bool b4, .bool b5], .int .i64 k] w fun e w' => e = .returned (actE (suAct ⟨a1, a2, a3, a4, a5⟩ ⟨b1, b2, b3, b4, b5⟩ k)) ∧ Below w.heap.size w w' := by
  by_cases ho : k < 1 ∨ 6 < k
  · rw [suAct_low ho]
    exact sact_out a1 a2 a3 a4 a5 b1 b2 b3 b4 b5 k hk ho w
  · have hr : k = 1 ∨ k = 2 ∨ k = 3 ∨ k = 4 ∨ k = 5 ∨ k = 6 := by omega
    cases hm : suMay ⟨a1, a2, a3, a4, a5⟩ ⟨b1, b2, b3, b4, b5⟩ with
    | false =>
      rw [suAct_not hm]
      exact sact_not a1 a2 a3 a4 a5 b1 b2 b3 b4 b5 k hk (by show _ = _; rcases hr with rfl | rfl | rfl | rfl | rfl | rfl <;> rfl) hm w
    | true =>
      rw [suAct_in hm (by omega) (by omega)]
      obtain ⟨x1, x2, x3, x4, x5, y1, y2, y3, y4, y5, er, hd⟩ := suDo_shape ⟨a1, a2, a3, a4, a5⟩ ⟨b1, b2, b3, b4, b5⟩ k
      rw [hd]
      by_cases he : er = 0
      · subst he
        rcases hr with rfl | rfl | rfl | rfl | rfl | rfl
        · exact sact_ok1 a1 a2 a3 a4 a5 b1 b2 b3 b4 b5 hm hd w
        · exact sact_ok2 a1 a2 a3 a4 a5 b1 b2 b3 b4 b5 hm hd w
        · exact sact_ok3 a1 a2 a3 a4 a5 b1 b2 b3 b4 b5 hm hd w
        · exact sact_ok4 a1 a2 a3 a4 a5 b1 b2 b3 b4 b5 hm hd w
        · exact sact_ok5 a1 a2 a3 a4 a5 b1 b2 b3 b4 b5 hm hd w
        · exact sact_ok6 a1 a2 a3 a4 a5 b1 b2 b3 b4 b5 hm hd w
      · obtain ⟨e1, e2⟩ := suDo_err hm (by omega) (by omega) hd he
        rw [e1, e2]
        rcases hr with rfl | rfl | rfl | rfl | rfl | rfl
        · exact sact_err1 a1 a2 a3 a4 a5 b1 b2 b3 b4 b5 he hm hd w
        · exact sact_err2 a1 a2 a3 a4 a5 b1 b2 b3 b4 b5 he hm hd w
        · exact sact_err3 a1 a2 a3 a4 a5 b1 b2 b3 b4 b5 he hm hd w
        · exact sact_err4 a1 a2 a3 a4 a5 b1 b2 b3 b4 b5 he hm hd w
        · exact sact_err5 a1 a2 a3 a4 a5 b1 b2 b3 b4 b5 he hm hd w
        · exact sact_err6 a1 a2 a3 a4 a5 b1 b2 b3 b4 b5 he hm hd w

end Go.Proofs.Ytlckphdmflofgaa
end

section
/-
  THE CONTRACT OF live OF LAYER 7's STATEMENTS: it returns true.
-/
namespace Go.Proofs.Ytlckphdmflofgaa
open Go.RowKit

/-- An item in a block of its own. -/
def ItAt (w : World) (B : Nat) (a : It) : Prop :=
  w.cell? ⟨B, 0, none⟩ = some (.bool a.to) ∧ w.cell? ⟨B, 1, none⟩ = some (.bool a.fr) ∧ w.cell? ⟨B, 2, none⟩ = some (.bool a.out) ∧ w.cell? ⟨B, 3, none⟩ = some (.bool a.inn) ∧ w.cell? ⟨B, 4, none⟩ = some (.bool a.bl)

theorem cellLaterS {w w' : World} {a : Addr} {v : Value} (h : w.cell? a = some v) (hb : Below w.heap.size w w') : w'.cell? a = some v := by
  rw [hb.cell (World.block_lt_of_cell? _ _ h)]
  exact h

theorem ItAt.later {w w' : World} {B : Nat} {a : It} (h : ItAt w B a) (hb : Below w.heap.size w w') : ItAt w' B a :=
  ⟨cellLaterS h.1 hb, cellLaterS h.2.1 hb, cellLaterS h.2.2.1 hb, cellLaterS h.2.2.2.1 hb, cellLaterS h.2.2.2.2 hb⟩

theorem itAt_made (w : World) (a : It) (B : Nat) (hB : B = w.heap.size) : ItAt (w.alloc (.cells #[.bool a.to, .bool a.fr, .bool a.out, .bool a.inn, .bool a.bl] 68)) B a := by
  subst hB
  refine ⟨?_, ?_, ?_, ?_, ?_⟩ <;> (rw [World.cell?_alloc_at _ _ _ _ rfl]; rfl)

theorem bl_allocS {w a : World} (h : Below w.heap.size w a) (o : Obj) : Below w.heap.size w (a.alloc o) := h.alloc h.size o

theorem ssees_eq (a1 a2 a3 a4 a5 b1 b2 b3 b4 b5 : Bool) {r : Bool} (h : suSees ⟨a1, a2, a3, a4, a5⟩ ⟨b1, b2, b3, b4, b5⟩ = r) (w : World) :
    Calls Try.prog 43 #[.agg #[.bool a1, .bool a2, .bool a3, .bool a4, .bool a5], .agg #[.bool b1, .bool b2, .bool b3, .bool b4, .bool b5]] w fun e w' => e = .returned (.bool r) ∧ Below w.heap.size w w' := by
  have g := ssees_any a1 a2 a3 a4 a5 b1 b2 b3 b4 b5 w
  rw [h] at g
  exact g

theorem smay_bl (a1 a2 a3 a4 a5 b1 b2 b3 b4 b5 : Bool) {r : Bool} (h : suMay ⟨a1, a2, a3, a4, a5⟩ ⟨b1, b2, b3, b4, b5⟩ = r) (w : World) :
    Calls Try.prog 59 #[.agg #[.bool a1, .bool a2, .bool a3, .bool a4, .bool a5], .agg #[.bool b1, .bool b2, .bool b3, .bool b4, .bool b5]] w fun e w' => e = .returned (.bool r) ∧ Below w.heap.size w w' := by
  have g := smay_any a1 a2 a3 a4 a5 b1 b2 b3 b4 b5 w
  rw [h] at g
  exact g.mono fun _ _ ⟨he, hw⟩ => ⟨he, by rw [hw]; exact ((Below.refl _ _).alloc (Nat.le_refl _) _).alloc (by simp) _⟩

theorem sempty_eq (a1 a2 a3 a4 a5 : Bool) {r : Bool} (h : suEmpty ⟨a1, a2, a3, a4, a5⟩ = r) (w : World) :
    Calls Try.prog 40 #[.agg #[.bool a1, .bool a2, .bool a3, .bool a4, .bool a5]] w fun e w' => e = .returned (.bool r) ∧ Below w.heap.size w w' := by
  have g := sempty_any a1 a2 a3 a4 a5 w
  rw [h] at g
  exact g

end Go.Proofs.Ytlckphdmflofgaa
end

section
/-
  LAYER 8: entries in memory; how two stand; the entry of an Owner and a Contact.
-/
namespace Go.Proofs.Ytlckphdmflofgaa
open Go.RowKit

/-- An entry by value: seven cells. -/
def entAgg (e : Ent) : Value := .agg #[.string ⟨e.o.toArray⟩, .string ⟨e.c.toArray⟩, .bool e.it.to, .bool e.it.fr, .bool e.it.out, .bool e.it.inn, .bool e.it.bl]

/-- Seven cells of a block. -/
def Cells7 (w : World) (b o : Nat) (e : Ent) : Prop :=
  w.cell? ⟨b, o, none⟩ = some (.string ⟨e.o.toArray⟩) ∧ w.cell? ⟨b, o + 1, none⟩ = some (.string ⟨e.c.toArray⟩) ∧ w.cell? ⟨b, o + 2, none⟩ = some (.bool e.it.to) ∧ w.cell? ⟨b, o + 3, none⟩ = some (.bool e.it.fr) ∧
    w.cell? ⟨b, o + 4, none⟩ = some (.bool e.it.out) ∧ w.cell? ⟨b, o + 5, none⟩ = some (.bool e.it.inn) ∧ w.cell? ⟨b, o + 6, none⟩ = some (.bool e.it.bl)

theorem Cells7.later {w w' : World} {b o : Nat} {e : Ent} (h : Cells7 w b o e) (hb : Below w.heap.size w w') : Cells7 w' b o e :=
  ⟨cellLaterS h.1 hb, cellLaterS h.2.1 hb, cellLaterS h.2.2.1 hb, cellLaterS h.2.2.2.1 hb, cellLaterS h.2.2.2.2.1 hb, cellLaterS h.2.2.2.2.2.1 hb, cellLaterS h.2.2.2.2.2.2 hb⟩

/-- A slice of entries that may be read. -/
def Ents (w : World) (v : Value) (l : List Ent) : Prop :=
  ∃ a cap, v = .slice a l.length cap ∧ l.length ≤ cap ∧ cap ≤ maxLen ∧ (a = none → cap = 0) ∧
    (l = [] ∨ ∃ b off, a = some ⟨b, off, none⟩ ∧ b < w.heap.size ∧ ∀ i, i < l.length → Cells7 w b (off + i * 7) (l.getD i Ent.zero))

theorem Ents.later {w w' : World} {v : Value} {l : List Ent} (h : Ents w v l) (hb : Below w.heap.size w w') : Ents w' v l := by
  obtain ⟨a, cap, h1, h2, h3, h4, h5⟩ := h
  refine ⟨a, cap, h1, h2, h3, h4, ?_⟩
  rcases h5 with h5 | ⟨b, off, e, hlt, hc⟩
  · exact .inl h5
  · exact .inr ⟨b, off, e, Nat.lt_of_lt_of_le hlt hb.size, fun i hi => (hc i hi).later hb⟩

theorem ents_nil (w : World) : Ents w (.slice none 0 0) [] := ⟨none, 0, rfl, by simp, by simp, fun _ => rfl, .inl rfl⟩

theorem Ents.row {w wr : World} {a : Option Addr} {n cap : Nat} {l : List Ent} (h : Ents w (.slice a n cap) l) (hb : Below w.heap.size w wr) (k : Nat) (hk : k < l.length) :
    ∃ b off, a = some ⟨b, off, none⟩ ∧ Cells7 wr b (off + k * 7) (l.getD k Ent.zero) := by
  obtain ⟨a', cap', e, _, _, _, h⟩ := h.later hb
  simp only [Value.slice.injEq] at e
  rcases h with h | ⟨b, off, e', _, hc⟩
  · rw [h] at hk; simp at hk
  · exact ⟨b, off, e.1.trans e', hc k hk⟩

theorem Ents.open' {w : World} {v : Value} {l : List Ent} (h : Ents w v l) : ∃ a cap, v = .slice a l.length cap ∧ l.length ≤ 9223372036854775807 := by
  obtain ⟨a, cap, e, h1, h2, _⟩ := h
  unfold maxLen at h2
  exact ⟨a, cap, e, by omega⟩

/-- Names that the contracts serve. -/
def ShortE (l : List Ent) : Prop := ∀ e ∈ l, e.o.length ≤ 4294967296 ∧ e.c.length ≤ 4294967296

theorem ShortE.get {l : List Ent} (h : ShortE l) {k : Nat} (hk : k < l.length) : (l.getD k Ent.zero).o.length ≤ 4294967296 ∧ (l.getD k Ent.zero).c.length ≤ 4294967296 := by
  rw [getD_at hk]
  exact h _ (List.getElem_mem hk)

/-- A number below 0, above 0, or 0. -/
def ordI (a b : List UInt8) : Int := if idLess a b = true then -1 else if idLess b a = true then 1 else 0

set_option maxHeartbeats 800000 in
set_option maxRecDepth 100000 in
theorem order_any (a b : List UInt8) (w : World) :
    Calls Try.prog 67 #[.string ⟨a.toArray⟩, .string ⟨b.toArray⟩] w fun e w' => e = .returned (.int .i64 (ordI a b)) ∧ Below w.heap.size w w' := by
  unfold ordI
  cases h1 : idLess a b with
  | true =>
    have H1 := Lib.hid h1
    clear h1
    simp only [if_true]
    go_enter Try.func67, Try.ntmps67
    go_wp2_with fail
    refine (less_eq a b H1 _).mono ?_
    rintro e w1 ⟨rfl, hb1⟩
    go_wp2_with fail
    go_ret
    exact ⟨rfl, hb1⟩
  | false =>
    have H1 := Lib.hid h1
    clear h1
    cases h2 : idLess b a with
    | true =>
      have H2 := Lib.hid h2
      clear h2
      simp only [if_true, Bool.false_eq_true, if_false]
      go_enter Try.func67, Try.ntmps67
      go_wp2_with fail
      refine (less_eq a b H1 _).mono ?_
      rintro e w1 ⟨rfl, hb1⟩
      go_wp2_with fail
      refine (less_eq b a H2 _).mono ?_
      rintro e w2 ⟨rfl, hb2⟩
      go_wp2_with fail
      go_ret
      exact ⟨rfl, below2S hb1 hb2⟩
    | false =>
      have H2 := Lib.hid h2
      clear h2
      simp only [Bool.false_eq_true, if_false]
      go_enter Try.func67, Try.ntmps67
      go_wp2_with fail
      refine (less_eq a b H1 _).mono ?_
      rintro e w1 ⟨rfl, hb1⟩
      go_wp2_with fail
      refine (less_eq b a H2 _).mono ?_
      rintro e w2 ⟨rfl, hb2⟩
      go_wp2_with fail
      go_ret
      exact ⟨rfl, below2S hb1 hb2⟩

/-- How two entries stand, as a number. -/
def entI (a b : Ent) : Int := if a.o = b.o then ordI a.c b.c else ordI a.o b.o

theorem ordI_lt (a b : List UInt8) : (ordI a b < 0) = (idLess a b = true) := by
  unfold ordI
  cases idLess a b <;> cases idLess b a <;> simp

theorem entI_lt (a b : Ent) : (entI a b < 0) = (entLt a b = true) := by
  unfold entI entLt
  by_cases h : a.o = b.o
  · rw [if_pos h, ordI_lt, h, idLess_irrefl]
    simp
  · rw [if_neg h, ordI_lt]
    simp [h]

theorem ordI_zero (a b : List UInt8) : (ordI a b = 0) = (a = b) := by
  unfold ordI
  rcases idLess_tri a b with ⟨h1, h2, h3⟩ | ⟨h1, h2, h3⟩ | ⟨h1, h2, h3⟩
  · simp [h1, h3]
  · simp [h1, h2, h3]
  · subst h3; simp [idLess_irrefl]

theorem entI_zero (a b : Ent) : (entI a b = 0) = (entIs a b = true) := by
  unfold entI entIs
  by_cases h : a.o = b.o
  · rw [if_pos h, ordI_zero]
    simp [h]
  · rw [if_neg h, ordI_zero]
    simp [h]

/-- The same with the answer in letters. -/
theorem order_eq (a b : List UInt8) {r : Int} (h : Hid (ordI a b = r)) (w : World) :
    Calls Try.prog 67 #[.string ⟨a.toArray⟩, .string ⟨b.toArray⟩] w fun e w' => e = .returned (.int .i64 r) ∧ Below w.heap.size w w' := by
  have := order_any a b w
  rwa [h.out] at this

set_option maxHeartbeats 800000 in
set_option maxRecDepth 100000 in
theorem rcompare_any (ao ac bo bc : List UInt8) (x1 x2 x3 x4 x5 y1 y2 y3 y4 y5 : Bool) (w : World) :
    Calls Try.prog 47 #[.agg #[.string ⟨ao.toArray⟩, .string ⟨ac.toArray⟩, .bool x1, .bool x2, .bool x3, .bool x4, .bool x5], .agg #[.string ⟨bo.toArray⟩, .string ⟨bc.toArray⟩, .bool y1, .bool y2, .bool y3, .bool y4, .bool y5]] w fun e w' => e = .returned (.int .i64 (entI ⟨ao, ac, ⟨x1, x2, x3, x4, x5⟩⟩ ⟨bo, bc, ⟨y1, y2, y3, y4, y5⟩⟩)) ∧ Below w.heap.size w w' := by
  have B0 : Hid (Below w.heap.size w ((w.alloc (.cells #[.string ⟨ao.toArray⟩, .string ⟨ac.toArray⟩, .bool x1, .bool x2, .bool x3, .bool x4, .bool x5] 70)).alloc (.cells #[.string ⟨bo.toArray⟩, .string ⟨bc.toArray⟩, .bool y1, .bool y2, .bool y3, .bool y4, .bool y5] 70))) := Lib.hid (((Below.refl _ _).alloc (Nat.le_refl _) _).alloc (by simp) _)
  unfold entI
  simp only
  by_cases h : ao = bo
  · subst h
    rw [if_pos rfl]
    obtain ⟨r, hr⟩ : ∃ r, ordI ac bc = r := ⟨_, rfl⟩
    rw [hr]
    have HO := Lib.hid (order_eq ac bc (Lib.hid hr))
    clear hr
    go_enter Try.func47, Try.ntmps47
    go_wp2_with fail
    refine (HO.out _).mono ?_
    rintro e w1 ⟨rfl, b⟩
    have B1 := Lib.hid (below2S B0.out b)
    clear b
    go_wp2_with fail
    go_ret
    exact ⟨rfl, B1.out⟩
  · rw [if_neg h]
    have t1 : (ao != bo) = true := by rw [bne_iff_ne]; exact h
    have t2 : (ao == bo) = false := by rw [beq_eq_false_iff_ne]; exact h
    obtain ⟨r, hr⟩ : ∃ r, ordI ao bo = r := ⟨_, rfl⟩
    rw [hr]
    have HO := Lib.hid (order_eq ao bo (Lib.hid hr))
    clear hr h
    go_enter Try.func47, Try.ntmps47
    go_wp2_with fail
    refine (HO.out _).mono ?_
    rintro e w1 ⟨rfl, b⟩
    have B1 := Lib.hid (below2S B0.out b)
    clear b
    go_wp2_with fail
    go_ret
    exact ⟨rfl, B1.out⟩

end Go.Proofs.Ytlckphdmflofgaa
end

section
/-
  LAYER 8, THE DOCUMENT: whether an entry is there.
-/
namespace Go.Proofs.Ytlckphdmflofgaa
open Go.RowKit

/-- An entry of that Owner and Contact. -/
def entOf (o c : List UInt8) : Ent := ⟨o, c, It.zero⟩

def roHas (l : List Ent) (o c : List UInt8) : Bool := l.any fun e => entIs e (entOf o c)

end Go.Proofs.Ytlckphdmflofgaa
end

section
/-
  LAYER 8, THE DOCUMENT: the item of an Owner on a Contact.
-/
namespace Go.Proofs.Ytlckphdmflofgaa
open Go.RowKit

/-- The item of the first entry of these. -/
def roGet (l : List Ent) (o c : List UInt8) : It := match l.find? fun e => entIs e (entOf o c) with
  | some e => e.it
  | none => It.zero

def itV (a : It) : Value := .agg #[.bool a.to, .bool a.fr, .bool a.out, .bool a.inn, .bool a.bl]

theorem roGet_none {l : List Ent} {o c : List UInt8} (h : ∀ j, j < l.length → entIs (l.getD j Ent.zero) (entOf o c) = false) : roGet l o c = It.zero := by
  unfold roGet
  have : l.find? (fun e => entIs e (entOf o c)) = none := by
    rw [List.find?_eq_none]
    intro e he
    obtain ⟨i, hi, rfl⟩ := List.getElem_of_mem he
    have := h i hi
    rw [getD_at hi] at this
    simp [this]
  rw [this]

theorem roGet_first : ∀ {l : List Ent} {o c : List UInt8} {k : Nat} (_ : k < l.length) (_ : ∀ j, j < k → entIs (l.getD j Ent.zero) (entOf o c) = false) (_ : (l.getD k Ent.zero).o = o) (_ : (l.getD k Ent.zero).c = c), roGet l o c = (l.getD k Ent.zero).it
  | [], _, _, _, hk, _, _, _ => by simp at hk
  | e :: l, o, c, k, hk, hn, ho, hc => by
    unfold roGet
    rw [List.find?_cons]
    cases k with
    | zero =>
      have : entIs e (entOf o c) = true := entIs_iff.2 ⟨ho, hc⟩
      rw [this]
      rfl
    | succ k =>
      have h0 : entIs e (entOf o c) = false := hn 0 (by omega)
      rw [h0]
      have := roGet_first (l := l) (o := o) (c := c) (k := k) (by simpa using hk) (fun j hj => hn (j + 1) (by omega)) ho hc
      unfold roGet at this
      exact this

end Go.Proofs.Ytlckphdmflofgaa
end

section
/-
  LAYER 8: the document's Sees; the code's entry, and the first entry that is the same.
-/
namespace Go.Proofs.Ytlckphdmflofgaa
open Go.RowKit

/-- Whether one sees the other one. -/
def roSees (l : List Ent) (o c : List UInt8) : Bool := suSees (roGet l o c) (roGet l c o)

set_option maxHeartbeats 800000 in
set_option maxRecDepth 100000 in
theorem entry_any (o c : List UInt8) (w : World) :
    Calls Try.prog 37 #[.string ⟨o.toArray⟩, .string ⟨c.toArray⟩] w fun e w' => e = .returned (.agg #[.string ⟨o.toArray⟩, .string ⟨c.toArray⟩, .bool false, .bool false, .bool false, .bool false, .bool false]) ∧ Below w.heap.size w w' := by
  go_enter Try.func37, Try.ntmps37
  go_wp2_with fail
  refine bodyPost_ret (v := .agg #[.string ⟨o.toArray⟩, .string ⟨c.toArray⟩, .bool false, .bool false, .bool false, .bool false, .bool false]) (by simp [results, Try.results37, go_sem]) rfl ⟨rfl, ?_⟩
  repeat (first | exact Below.refl _ _ | refine Below.setCell ?_ (by first | (simp; done) | (simp; omega)) _ | refine Below.alloc ?_ (by first | (simp; done) | (simp; omega)) _)

/-- The place of the first one that is the same. -/
def roFirst (l : List Ent) (x : Ent) : Nat × Bool := if (l.any fun e => entIs e x) = true then (l.findIdx fun e => entIs e x, true) else (0, false)

theorem roFirst_yes {l : List Ent} {x : Ent} {k : Nat} (hk : k < l.length) (hn : ∀ j, j < k → entIs (l.getD j Ent.zero) x = false) (h : entIs (l.getD k Ent.zero) x = true) : roFirst l x = (k, true) := by
  unfold roFirst
  rw [if_pos (by rw [List.any_eq_true]; exact ⟨l.getD k Ent.zero, by rw [getD_at hk]; exact List.getElem_mem hk, h⟩)]
  congr 1
  rw [List.findIdx_eq hk]
  refine ⟨by rw [← getD_at hk]; exact h, fun j hj => ?_⟩
  have := hn j hj
  rwa [getD_at (by omega)] at this

theorem roFirst_no {l : List Ent} {x : Ent} (hn : ∀ j, j < l.length → entIs (l.getD j Ent.zero) x = false) : roFirst l x = (0, false) := by
  unfold roFirst
  rw [if_neg]
  simp only [Bool.not_eq_true, List.any_eq_false]
  intro e he
  obtain ⟨i, hi, rfl⟩ := List.getElem_of_mem he
  have := hn i hi
  rw [getD_at hi] at this
  simp [this]

end Go.Proofs.Ytlckphdmflofgaa
end

section
/-
  LAYER 8, PLAIN: what RostSides, RostOthers and RostWatchers ask.
-/
namespace Go.Proofs.Ytlckphdmflofgaa

theorem roGet_it (l : List Ent) (o c : List UInt8) : roGet l o c = roIt l o c := rfl

theorem roDo_get {l m : List Ent} {k : Int} {u o : List UInt8} (h : roDo l k u o = (m, 0)) {p q : List UInt8} (h1 : ¬ (p = u ∧ q = o)) (h2 : ¬ (p = o ∧ q = u)) : roGet m p q = roGet l p q ∧ roSees m p q = roSees l p q := by
  have e1 : roGet m p q = roGet l p q := roDo_other h h1 h2
  have e2 : roGet m q p = roGet l q p := roDo_other h (fun e => h2 ⟨e.2, e.1⟩) (fun e => h1 ⟨e.2, e.1⟩)
  refine ⟨e1, ?_⟩
  unfold roSees
  rw [e1, e2]

theorem roWat_mem {l : List Ent} (hr : Rise l) {c w : List UInt8} : w ∈ roWat l c ↔ roSees l w c = true := by
  unfold roWat
  simp only [List.mem_map, List.mem_filter, roWB, Bool.and_eq_true, decide_eq_true_eq]
  constructor
  · rintro ⟨e, ⟨h1, h2, h3⟩, rfl⟩
    unfold roSees
    rw [roGet_it, roGet_it]
    have := roIt_mem hr h1
    rw [h2] at this
    rw [this]
    exact h3
  · intro h
    unfold roSees at h
    rw [roGet_it, roGet_it] at h
    have hto : (roIt l w c).to = true := by
      unfold suSees at h
      simp only [Bool.and_eq_true] at h
      exact h.1
    cases hf : l.find? (fun e => entIs e ⟨w, c, It.zero⟩) with
    | none =>
      unfold roIt at hto
      rw [hf] at hto
      cases hto
    | some e =>
      have he := List.mem_of_find?_eq_some hf
      have hs := entIs_iff.1 (List.find?_some (p := fun e => entIs e ⟨w, c, It.zero⟩) hf)
      refine ⟨e, ⟨he, hs.2, ?_⟩, hs.1⟩
      have hi : roIt l w c = e.it := by
        unfold roIt
        rw [hf]
      rw [hs.1, ← hi]
      exact h

end Go.Proofs.Ytlckphdmflofgaa
end

section
/-
  A SLICE OF A SLICE OF STRUCTS.
-/
namespace Go.Proofs.Ytlckphdmflofgaa
open Go.RowKit

end Go.Proofs.Ytlckphdmflofgaa
end

section
/-
  LAYER 8: entries as rows of seven cells.
-/
namespace Go.Proofs.Ytlckphdmflofgaa
open Go.RowKit

def entVals (e : Ent) : List Value := [.string ⟨e.o.toArray⟩, .string ⟨e.c.toArray⟩, .bool e.it.to, .bool e.it.fr, .bool e.it.out, .bool e.it.inn, .bool e.it.bl]

theorem entOK : RowOK Try.prog entVals 7 Ent.zero 70 43 (.agg #[.string ⟨#[]⟩, .string ⟨#[]⟩, .bool false, .bool false, .bool false, .bool false, .bool false]) 40 where
  len _ := rfl
  one a u hu := by
    simp only [entVals, List.mem_cons, List.not_mem_nil, or_false] at hu
    rcases hu with rfl | rfl | rfl | rfl | rfl | rfl | rfl <;> rfl
  pos := by decide
  small := by decide
  under := Try.underlying43
  info := by kernel_rfl
  zvals := rfl
  fits := by decide

theorem cells7_at {w : World} {b o : Nat} {e : Ent} : Cells7 w b o e ↔ CellsAt w b o (entVals e) := by
  constructor
  · rintro ⟨h0, h1, h2, h3, h4, h5, h6⟩ j u hu
    match j, hu with
    | 0, hu => cases hu; exact h0
    | 1, hu => cases hu; exact h1
    | 2, hu => cases hu; exact h2
    | 3, hu => cases hu; exact h3
    | 4, hu => cases hu; exact h4
    | 5, hu => cases hu; exact h5
    | 6, hu => cases hu; exact h6
    | n + 7, hu => simp [entVals] at hu
  · intro h
    exact ⟨h 0 _ rfl, h 1 _ rfl, h 2 _ rfl, h 3 _ rfl, h 4 _ rfl, h 5 _ rfl, h 6 _ rfl⟩

end Go.Proofs.Ytlckphdmflofgaa
end
