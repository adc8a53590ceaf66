/-
  TEXTS OF THE PROOF, one behind the other: SubDo4, SubDo5, SubDo6, SubAct, SubLive, RosCmp, Aid, SeqS, RosRow, EntIns.
-/
import Derived.Test.YthfkfonfiejbmaaGreatC06
import Derived.Test.YthfkfonfiejbmaaGreatC02
import Derived.Test.YthfkfonfiejbmaaGreatC01
import Derived.Lib.Hide
import Derived.Maps.OwnSet
import Derived.Deep.RegionHeld
import Derived.Deep.AppendLies
import Derived.WalkSpells
import Derived.StillTailTactics

section

/-
  THE CONTRACT OF subs.Act at kind 4, of items that may be.
-/
namespace Go.Proofs.YthfkfonfiejbmaaGreat
open Go.RowKit

theorem unsubscribed_eq (a1 a2 a3 a4 a5 b1 b2 b3 b4 b5 : Bool) {x1 x2 x3 x4 x5 y1 y2 y3 y4 y5 : Bool} {er : Nat} (h : Hid (suDo ⟨a1, a2, a3, a4, a5⟩ ⟨b1, b2, b3, b4, b5⟩ 4 = (⟨x1, x2, x3, x4, x5⟩, ⟨y1, y2, y3, y4, y5⟩, er))) (w : World) :
    Calls Tryz.prog 115 #[.agg #[.bool a1, .bool a2, .bool a3, .bool a4, .bool a5, .bool b1, .bool b2, .bool b3, .bool b4, .bool b5]] w fun e w' => e = .returned (.tuple #[.agg #[.bool x1, .bool x2, .bool x3, .bool x4, .bool x5, .bool y1, .bool y2, .bool y3, .bool y4, .bool y5], .int .i64 er]) ∧ Below w.heap.size w w' := by
  have g := unsubscribed_any a1 a2 a3 a4 a5 b1 b2 b3 b4 b5 w
  rw [h.out] at g
  exact g

set_option maxHeartbeats 3200000 in
set_option maxRecDepth 100000 in
theorem sact_err4 (a1 a2 a3 a4 a5 b1 b2 b3 b4 b5 : Bool) {x1 x2 x3 x4 x5 y1 y2 y3 y4 y5 : Bool} {er : Nat} (he : er ≠ 0) (HM : Hid (suMay ⟨a1, a2, a3, a4, a5⟩ ⟨b1, b2, b3, b4, b5⟩ = true)) (HD : Hid (suDo ⟨a1, a2, a3, a4, a5⟩ ⟨b1, b2, b3, b4, b5⟩ 4 = (⟨x1, x2, x3, x4, x5⟩, ⟨y1, y2, y3, y4, y5⟩, er))) (w : World) :
    Calls Tryz.prog 64 #[.agg #[.bool a1, .bool a2, .bool a3, .bool a4, .bool a5], .agg #[.bool b1, .bool b2, .bool b3, .bool b4, .bool b5], .int .i64 4] w fun e w' => e = .returned (actE (⟨a1, a2, a3, a4, a5⟩, ⟨b1, b2, b3, b4, b5⟩, er)) ∧ Below w.heap.size w w' := by
  have t1 : ((er : Int) != 0) = true := by rw [bne_iff_ne]; omega
  clear he
  have B0 : Hid (Below w.heap.size w (((((w.alloc (.cells #[.bool a1, .bool a2, .bool a3, .bool a4, .bool a5] 66)).alloc (.cells #[.bool b1, .bool b2, .bool b3, .bool b4, .bool b5] 66)).alloc (.cells #[.bool false, .bool false, .bool false, .bool false, .bool false] 66)).alloc (.cells #[.bool false, .bool false, .bool false, .bool false, .bool false] 66)))) := Lib.hid (((((Below.refl _ _).alloc (Nat.le_refl _) _).alloc (by simp) _).alloc (by simp; omega) _).alloc (by simp; omega) _)
  go_enter Tryz.func64, Tryz.ntmps64
  go_wp2_with fail
  refine (kinds_any _).mono ?_
  rintro e w1 ⟨rfl, hf, hb⟩
  have hl0 := hf.look 4 (by decide)
  have hl1 : ∀ B, B = (((((w.alloc (.cells #[.bool a1, .bool a2, .bool a3, .bool a4, .bool a5] 66)).alloc (.cells #[.bool b1, .bool b2, .bool b3, .bool b4, .bool b5] 66)).alloc (.cells #[.bool false, .bool false, .bool false, .bool false, .bool false] 66)).alloc (.cells #[.bool false, .bool false, .bool false, .bool false, .bool false] 66))).heap.size → (Instr.lookup 142 (.map (some B)) (.int .i64 4) true).run Tryz.prog w1 = .ok (.tuple #[.func (.func 115) #[] #[], .bool true]) w1 := fun B e => by rw [e]; exact hl0
  have hl := hl1 (w.heap.size + 1 + 1 + 1 + 1) (by simp)
  clear hl0 hl1
  have HB1 : Hid (Below w.heap.size w w1) := Lib.hid (below2S B0.out hb)
  have hz1 : w.heap.size + 1 + 1 + 1 + 1 ≤ w1.heap.size := by have := hb.size; simp at this; omega
  obtain ⟨c00, c01, c02, c03, c04, c10, c11, c12, c13, c14, c20, z20, c21, z21, c22, z22, c23, z23, c24, z24, c30, z30, c31, z31, c32, z32, c33, z33, c34, z34⟩ := act_cells hb
  clear hf hb
  go_wp2_with fail
  refine (smay_eq _ _ _ _ _ _ _ _ _ _ HM _).mono ?_
  rintro e w2 ⟨rfl, rfl⟩
  obtain ⟨w2, hw2⟩ : ∃ w2, w2 = (w1.alloc (.cells #[.bool a1, .bool a2, .bool a3, .bool a4, .bool a5] 66)).alloc (.cells #[.bool b1, .bool b2, .bool b3, .bool b4, .bool b5] 66) := ⟨_, rfl⟩
  rw [← hw2]
  have hb2 : Below w1.heap.size w1 w2 := by rw [hw2]; exact ((Below.refl _ _).alloc (Nat.le_refl _) _).alloc (by simp) _
  have HB2 : Hid (Below w.heap.size w w2) := Lib.hid (below2S HB1.out hb2)
  have hz2 : w.heap.size + 1 + 1 + 1 + 1 ≤ w2.heap.size := Nat.le_trans hz1 hb2.size
  clear hw2
  have hcs := act30 hb2 c00 c01 c02 c03 c04 c10 c11 c12 c13 c14 c20 c21 c22 c23 c24 c30 c31 c32 c33 c34 z20 z21 z22 z23 z24 z30 z31 z32 z33 z34
  clear c00 c01 c02 c03 c04 c10 c11 c12 c13 c14 c20 c21 c22 c23 c24 c30 c31 c32 c33 c34 z20 z21 z22 z23 z24 z30 z31 z32 z33 z34
  obtain ⟨c00, c01, c02, c03, c04, c10, c11, c12, c13, c14, c20, c21, c22, c23, c24, c30, c31, c32, c33, c34, z20, z21, z22, z23, z24, z30, z31, z32, z33, z34⟩ := hcs
  clear hb2 hz1
  go_wp2_with fail
  refine (unsubscribed_eq _ _ _ _ _ _ _ _ _ _ HD _).mono ?_
  rintro e w3 ⟨rfl, hb3⟩
  have HB3 : Hid (Below w.heap.size w w3) := Lib.hid (below2S HB2.out hb3)
  have hz3 : w.heap.size + 1 + 1 + 1 + 1 ≤ w3.heap.size := Nat.le_trans hz2 hb3.size
  have hcs := act30 hb3 c00 c01 c02 c03 c04 c10 c11 c12 c13 c14 c20 c21 c22 c23 c24 c30 c31 c32 c33 c34 z20 z21 z22 z23 z24 z30 z31 z32 z33 z34
  clear c00 c01 c02 c03 c04 c10 c11 c12 c13 c14 c20 c21 c22 c23 c24 c30 c31 c32 c33 c34 z20 z21 z22 z23 z24 z30 z31 z32 z33 z34
  obtain ⟨c00, c01, c02, c03, c04, c10, c11, c12, c13, c14, c20, c21, c22, c23, c24, c30, c31, c32, c33, c34, z20, z21, z22, z23, z24, z30, z31, z32, z33, z34⟩ := hcs
  clear hb3 hz2
  go_wp2_with fail
  have hb4 : Below w3.heap.size w3 (w3.alloc (.cells #[.bool x1, .bool x2, .bool x3, .bool x4, .bool x5, .bool y1, .bool y2, .bool y3, .bool y4, .bool y5] 145)) := (Below.refl _ _).alloc (Nat.le_refl _) _
  have HB4 : Hid (Below w.heap.size w (w3.alloc (.cells #[.bool x1, .bool x2, .bool x3, .bool x4, .bool x5, .bool y1, .bool y2, .bool y3, .bool y4, .bool y5] 145))) := Lib.hid (below2S HB3.out hb4)
  have hcs := act30 hb4 c00 c01 c02 c03 c04 c10 c11 c12 c13 c14 c20 c21 c22 c23 c24 c30 c31 c32 c33 c34 z20 z21 z22 z23 z24 z30 z31 z32 z33 z34
  clear c00 c01 c02 c03 c04 c10 c11 c12 c13 c14 c20 c21 c22 c23 c24 c30 c31 c32 c33 c34 z20 z21 z22 z23 z24 z30 z31 z32 z33 z34
  obtain ⟨c00, c01, c02, c03, c04, c10, c11, c12, c13, c14, c20, c21, c22, c23, c24, c30, c31, c32, c33, c34, z20, z21, z22, z23, z24, z30, z31, z32, z33, z34⟩ := hcs
  go_region
  try go_wp2_with fail
  obtain ⟨r0, r1, r2, r3, r4, r5, r6, r7, r8, r9⟩ := set10_get (w3.alloc (.cells #[.bool x1, .bool x2, .bool x3, .bool x4, .bool x5, .bool y1, .bool y2, .bool y3, .bool y4, .bool y5] 145)) (w.heap.size + 1 + 1) (w.heap.size + 1 + 1 + 1) (by omega) (.bool a1) (.bool a2) (.bool a3) (.bool a4) (.bool a5) (.bool b1) (.bool b2) (.bool b3) (.bool b4) (.bool b5) _ _ _ _ _ _ _ _ _ _ c20 c21 c22 c23 c24 c30 c31 c32 c33 c34
  have hB := set10_below HB4.out (w.heap.size + 1 + 1) (w.heap.size + 1 + 1 + 1) (by omega) (by omega) (.bool a1) (.bool a2) (.bool a3) (.bool a4) (.bool a5) (.bool b1) (.bool b2) (.bool b3) (.bool b4) (.bool b5)
  show bodyPost _ _ _ _ _ (set10 (w3.alloc (.cells #[.bool x1, .bool x2, .bool x3, .bool x4, .bool x5, .bool y1, .bool y2, .bool y3, .bool y4, .bool y5] 145)) (w.heap.size + 1 + 1) (w.heap.size + 1 + 1 + 1) (.bool a1) (.bool a2) (.bool a3) (.bool a4) (.bool a5) (.bool b1) (.bool b2) (.bool b3) (.bool b4) (.bool b5)).drew
  exact bodyPost_ret (v := actE (⟨a1, a2, a3, a4, a5⟩, ⟨b1, b2, b3, b4, b5⟩, er)) (by simp [results, Tryz.results64, go_sem, actE, r0, r1, r2, r3, r4, r5, r6, r7, r8, r9]) rfl ⟨rfl, hB.drew⟩

set_option maxHeartbeats 3200000 in
set_option maxRecDepth 100000 in
theorem sact_ok4 (a1 a2 a3 a4 a5 b1 b2 b3 b4 b5 : Bool) {x1 x2 x3 x4 x5 y1 y2 y3 y4 y5 : Bool} (HM : Hid (suMay ⟨a1, a2, a3, a4, a5⟩ ⟨b1, b2, b3, b4, b5⟩ = true)) (HD : Hid (suDo ⟨a1, a2, a3, a4, a5⟩ ⟨b1, b2, b3, b4, b5⟩ 4 = (⟨x1, x2, x3, x4, x5⟩, ⟨y1, y2, y3, y4, y5⟩, 0))) (w : World) :
    Calls Tryz.prog 64 #[.agg #[.bool a1, .bool a2, .bool a3, .bool a4, .bool a5], .agg #[.bool b1, .bool b2, .bool b3, .bool b4, .bool b5], .int .i64 4] w fun e w' => e = .returned (actE (⟨x1, x2, x3, x4, x5⟩, ⟨y1, y2, y3, y4, y5⟩, 0)) ∧ Below w.heap.size w w' := by
  have B0 : Hid (Below w.heap.size w (((((w.alloc (.cells #[.bool a1, .bool a2, .bool a3, .bool a4, .bool a5] 66)).alloc (.cells #[.bool b1, .bool b2, .bool b3, .bool b4, .bool b5] 66)).alloc (.cells #[.bool false, .bool false, .bool false, .bool false, .bool false] 66)).alloc (.cells #[.bool false, .bool false, .bool false, .bool false, .bool false] 66)))) := Lib.hid (((((Below.refl _ _).alloc (Nat.le_refl _) _).alloc (by simp) _).alloc (by simp; omega) _).alloc (by simp; omega) _)
  go_enter Tryz.func64, Tryz.ntmps64
  go_wp2_with fail
  refine (kinds_any _).mono ?_
  rintro e w1 ⟨rfl, hf, hb⟩
  have hl0 := hf.look 4 (by decide)
  have hl1 : ∀ B, B = (((((w.alloc (.cells #[.bool a1, .bool a2, .bool a3, .bool a4, .bool a5] 66)).alloc (.cells #[.bool b1, .bool b2, .bool b3, .bool b4, .bool b5] 66)).alloc (.cells #[.bool false, .bool false, .bool false, .bool false, .bool false] 66)).alloc (.cells #[.bool false, .bool false, .bool false, .bool false, .bool false] 66))).heap.size → (Instr.lookup 142 (.map (some B)) (.int .i64 4) true).run Tryz.prog w1 = .ok (.tuple #[.func (.func 115) #[] #[], .bool true]) w1 := fun B e => by rw [e]; exact hl0
  have hl := hl1 (w.heap.size + 1 + 1 + 1 + 1) (by simp)
  clear hl0 hl1
  have HB1 : Hid (Below w.heap.size w w1) := Lib.hid (below2S B0.out hb)
  have hz1 : w.heap.size + 1 + 1 + 1 + 1 ≤ w1.heap.size := by have := hb.size; simp at this; omega
  obtain ⟨c00, c01, c02, c03, c04, c10, c11, c12, c13, c14, c20, z20, c21, z21, c22, z22, c23, z23, c24, z24, c30, z30, c31, z31, c32, z32, c33, z33, c34, z34⟩ := act_cells hb
  clear hf hb
  go_wp2_with fail
  refine (smay_eq _ _ _ _ _ _ _ _ _ _ HM _).mono ?_
  rintro e w2 ⟨rfl, rfl⟩
  obtain ⟨w2, hw2⟩ : ∃ w2, w2 = (w1.alloc (.cells #[.bool a1, .bool a2, .bool a3, .bool a4, .bool a5] 66)).alloc (.cells #[.bool b1, .bool b2, .bool b3, .bool b4, .bool b5] 66) := ⟨_, rfl⟩
  rw [← hw2]
  have hb2 : Below w1.heap.size w1 w2 := by rw [hw2]; exact ((Below.refl _ _).alloc (Nat.le_refl _) _).alloc (by simp) _
  have HB2 : Hid (Below w.heap.size w w2) := Lib.hid (below2S HB1.out hb2)
  have hz2 : w.heap.size + 1 + 1 + 1 + 1 ≤ w2.heap.size := Nat.le_trans hz1 hb2.size
  clear hw2
  have hcs := act30 hb2 c00 c01 c02 c03 c04 c10 c11 c12 c13 c14 c20 c21 c22 c23 c24 c30 c31 c32 c33 c34 z20 z21 z22 z23 z24 z30 z31 z32 z33 z34
  clear c00 c01 c02 c03 c04 c10 c11 c12 c13 c14 c20 c21 c22 c23 c24 c30 c31 c32 c33 c34 z20 z21 z22 z23 z24 z30 z31 z32 z33 z34
  obtain ⟨c00, c01, c02, c03, c04, c10, c11, c12, c13, c14, c20, c21, c22, c23, c24, c30, c31, c32, c33, c34, z20, z21, z22, z23, z24, z30, z31, z32, z33, z34⟩ := hcs
  clear hb2 hz1
  go_wp2_with fail
  refine (unsubscribed_eq _ _ _ _ _ _ _ _ _ _ HD _).mono ?_
  rintro e w3 ⟨rfl, hb3⟩
  have HB3 : Hid (Below w.heap.size w w3) := Lib.hid (below2S HB2.out hb3)
  have hz3 : w.heap.size + 1 + 1 + 1 + 1 ≤ w3.heap.size := Nat.le_trans hz2 hb3.size
  have hcs := act30 hb3 c00 c01 c02 c03 c04 c10 c11 c12 c13 c14 c20 c21 c22 c23 c24 c30 c31 c32 c33 c34 z20 z21 z22 z23 z24 z30 z31 z32 z33 z34
  clear c00 c01 c02 c03 c04 c10 c11 c12 c13 c14 c20 c21 c22 c23 c24 c30 c31 c32 c33 c34 z20 z21 z22 z23 z24 z30 z31 z32 z33 z34
  obtain ⟨c00, c01, c02, c03, c04, c10, c11, c12, c13, c14, c20, c21, c22, c23, c24, c30, c31, c32, c33, c34, z20, z21, z22, z23, z24, z30, z31, z32, z33, z34⟩ := hcs
  clear hb3 hz2
  go_wp2_with fail
  have hb4 : Below w3.heap.size w3 (w3.alloc (.cells #[.bool x1, .bool x2, .bool x3, .bool x4, .bool x5, .bool y1, .bool y2, .bool y3, .bool y4, .bool y5] 145)) := (Below.refl _ _).alloc (Nat.le_refl _) _
  have HB4 : Hid (Below w.heap.size w (w3.alloc (.cells #[.bool x1, .bool x2, .bool x3, .bool x4, .bool x5, .bool y1, .bool y2, .bool y3, .bool y4, .bool y5] 145))) := Lib.hid (below2S HB3.out hb4)
  have hcs := act30 hb4 c00 c01 c02 c03 c04 c10 c11 c12 c13 c14 c20 c21 c22 c23 c24 c30 c31 c32 c33 c34 z20 z21 z22 z23 z24 z30 z31 z32 z33 z34
  clear c00 c01 c02 c03 c04 c10 c11 c12 c13 c14 c20 c21 c22 c23 c24 c30 c31 c32 c33 c34 z20 z21 z22 z23 z24 z30 z31 z32 z33 z34
  obtain ⟨c00, c01, c02, c03, c04, c10, c11, c12, c13, c14, c20, c21, c22, c23, c24, c30, c31, c32, c33, c34, z20, z21, z22, z23, z24, z30, z31, z32, z33, z34⟩ := hcs
  go_region
  try go_wp2_with fail
  obtain ⟨r0, r1, r2, r3, r4, r5, r6, r7, r8, r9⟩ := set10_get (w3.alloc (.cells #[.bool x1, .bool x2, .bool x3, .bool x4, .bool x5, .bool y1, .bool y2, .bool y3, .bool y4, .bool y5] 145)) (w.heap.size + 1 + 1) (w.heap.size + 1 + 1 + 1) (by omega) (.bool x1) (.bool x2) (.bool x3) (.bool x4) (.bool x5) (.bool y1) (.bool y2) (.bool y3) (.bool y4) (.bool y5) _ _ _ _ _ _ _ _ _ _ c20 c21 c22 c23 c24 c30 c31 c32 c33 c34
  have hB := set10_below HB4.out (w.heap.size + 1 + 1) (w.heap.size + 1 + 1 + 1) (by omega) (by omega) (.bool x1) (.bool x2) (.bool x3) (.bool x4) (.bool x5) (.bool y1) (.bool y2) (.bool y3) (.bool y4) (.bool y5)
  show bodyPost _ _ _ _ _ (set10 (w3.alloc (.cells #[.bool x1, .bool x2, .bool x3, .bool x4, .bool x5, .bool y1, .bool y2, .bool y3, .bool y4, .bool y5] 145)) (w.heap.size + 1 + 1) (w.heap.size + 1 + 1 + 1) (.bool x1) (.bool x2) (.bool x3) (.bool x4) (.bool x5) (.bool y1) (.bool y2) (.bool y3) (.bool y4) (.bool y5)).drew
  exact bodyPost_ret (v := actE (⟨x1, x2, x3, x4, x5⟩, ⟨y1, y2, y3, y4, y5⟩, 0)) (by simp [results, Tryz.results64, go_sem, actE, r0, r1, r2, r3, r4, r5, r6, r7, r8, r9]) rfl ⟨rfl, hB.drew⟩

end Go.Proofs.YthfkfonfiejbmaaGreat

end

section

/-
  THE CONTRACT OF subs.Act at kind 5, of items that may be.
-/
namespace Go.Proofs.YthfkfonfiejbmaaGreat
open Go.RowKit

theorem block_eq (a1 a2 a3 a4 a5 b1 b2 b3 b4 b5 : Bool) {x1 x2 x3 x4 x5 y1 y2 y3 y4 y5 : Bool} {er : Nat} (h : Hid (suDo ⟨a1, a2, a3, a4, a5⟩ ⟨b1, b2, b3, b4, b5⟩ 5 = (⟨x1, x2, x3, x4, x5⟩, ⟨y1, y2, y3, y4, y5⟩, er))) (w : World) :
    Calls Tryz.prog 116 #[.agg #[.bool a1, .bool a2, .bool a3, .bool a4, .bool a5, .bool b1, .bool b2, .bool b3, .bool b4, .bool b5]] w fun e w' => e = .returned (.tuple #[.agg #[.bool x1, .bool x2, .bool x3, .bool x4, .bool x5, .bool y1, .bool y2, .bool y3, .bool y4, .bool y5], .int .i64 er]) ∧ Below w.heap.size w w' := by
  have g := block_any a1 a2 a3 a4 a5 b1 b2 b3 b4 b5 w
  rw [h.out] at g
  exact g

set_option maxHeartbeats 3200000 in
set_option maxRecDepth 100000 in
theorem sact_err5 (a1 a2 a3 a4 a5 b1 b2 b3 b4 b5 : Bool) {x1 x2 x3 x4 x5 y1 y2 y3 y4 y5 : Bool} {er : Nat} (he : er ≠ 0) (HM : Hid (suMay ⟨a1, a2, a3, a4, a5⟩ ⟨b1, b2, b3, b4, b5⟩ = true)) (HD : Hid (suDo ⟨a1, a2, a3, a4, a5⟩ ⟨b1, b2, b3, b4, b5⟩ 5 = (⟨x1, x2, x3, x4, x5⟩, ⟨y1, y2, y3, y4, y5⟩, er))) (w : World) :
    Calls Tryz.prog 64 #[.agg #[.bool a1, .bool a2, .bool a3, .bool a4, .bool a5], .agg #[.bool b1, .bool b2, .bool b3, .bool b4, .bool b5], .int .i64 5] w fun e w' => e = .returned (actE (⟨a1, a2, a3, a4, a5⟩, ⟨b1, b2, b3, b4, b5⟩, er)) ∧ Below w.heap.size w w' := by
  have t1 : ((er : Int) != 0) = true := by rw [bne_iff_ne]; omega
  clear he
  have B0 : Hid (Below w.heap.size w (((((w.alloc (.cells #[.bool a1, .bool a2, .bool a3, .bool a4, .bool a5] 66)).alloc (.cells #[.bool b1, .bool b2, .bool b3, .bool b4, .bool b5] 66)).alloc (.cells #[.bool false, .bool false, .bool false, .bool false, .bool false] 66)).alloc (.cells #[.bool false, .bool false, .bool false, .bool false, .bool false] 66)))) := Lib.hid (((((Below.refl _ _).alloc (Nat.le_refl _) _).alloc (by simp) _).alloc (by simp; omega) _).alloc (by simp; omega) _)
  go_enter Tryz.func64, Tryz.ntmps64
  go_wp2_with fail
  refine (kinds_any _).mono ?_
  rintro e w1 ⟨rfl, hf, hb⟩
  have hl0 := hf.look 5 (by decide)
  have hl1 : ∀ B, B = (((((w.alloc (.cells #[.bool a1, .bool a2, .bool a3, .bool a4, .bool a5] 66)).alloc (.cells #[.bool b1, .bool b2, .bool b3, .bool b4, .bool b5] 66)).alloc (.cells #[.bool false, .bool false, .bool false, .bool false, .bool false] 66)).alloc (.cells #[.bool false, .bool false, .bool false, .bool false, .bool false] 66))).heap.size → (Instr.lookup 142 (.map (some B)) (.int .i64 5) true).run Tryz.prog w1 = .ok (.tuple #[.func (.func 116) #[] #[], .bool true]) w1 := fun B e => by rw [e]; exact hl0
  have hl := hl1 (w.heap.size + 1 + 1 + 1 + 1) (by simp)
  clear hl0 hl1
  have HB1 : Hid (Below w.heap.size w w1) := Lib.hid (below2S B0.out hb)
  have hz1 : w.heap.size + 1 + 1 + 1 + 1 ≤ w1.heap.size := by have := hb.size; simp at this; omega
  obtain ⟨c00, c01, c02, c03, c04, c10, c11, c12, c13, c14, c20, z20, c21, z21, c22, z22, c23, z23, c24, z24, c30, z30, c31, z31, c32, z32, c33, z33, c34, z34⟩ := act_cells hb
  clear hf hb
  go_wp2_with fail
  refine (smay_eq _ _ _ _ _ _ _ _ _ _ HM _).mono ?_
  rintro e w2 ⟨rfl, rfl⟩
  obtain ⟨w2, hw2⟩ : ∃ w2, w2 = (w1.alloc (.cells #[.bool a1, .bool a2, .bool a3, .bool a4, .bool a5] 66)).alloc (.cells #[.bool b1, .bool b2, .bool b3, .bool b4, .bool b5] 66) := ⟨_, rfl⟩
  rw [← hw2]
  have hb2 : Below w1.heap.size w1 w2 := by rw [hw2]; exact ((Below.refl _ _).alloc (Nat.le_refl _) _).alloc (by simp) _
  have HB2 : Hid (Below w.heap.size w w2) := Lib.hid (below2S HB1.out hb2)
  have hz2 : w.heap.size + 1 + 1 + 1 + 1 ≤ w2.heap.size := Nat.le_trans hz1 hb2.size
  clear hw2
  have hcs := act30 hb2 c00 c01 c02 c03 c04 c10 c11 c12 c13 c14 c20 c21 c22 c23 c24 c30 c31 c32 c33 c34 z20 z21 z22 z23 z24 z30 z31 z32 z33 z34
  clear c00 c01 c02 c03 c04 c10 c11 c12 c13 c14 c20 c21 c22 c23 c24 c30 c31 c32 c33 c34 z20 z21 z22 z23 z24 z30 z31 z32 z33 z34
  obtain ⟨c00, c01, c02, c03, c04, c10, c11, c12, c13, c14, c20, c21, c22, c23, c24, c30, c31, c32, c33, c34, z20, z21, z22, z23, z24, z30, z31, z32, z33, z34⟩ := hcs
  clear hb2 hz1
  go_wp2_with fail
  refine (block_eq _ _ _ _ _ _ _ _ _ _ HD _).mono ?_
  rintro e w3 ⟨rfl, hb3⟩
  have HB3 : Hid (Below w.heap.size w w3) := Lib.hid (below2S HB2.out hb3)
  have hz3 : w.heap.size + 1 + 1 + 1 + 1 ≤ w3.heap.size := Nat.le_trans hz2 hb3.size
  have hcs := act30 hb3 c00 c01 c02 c03 c04 c10 c11 c12 c13 c14 c20 c21 c22 c23 c24 c30 c31 c32 c33 c34 z20 z21 z22 z23 z24 z30 z31 z32 z33 z34
  clear c00 c01 c02 c03 c04 c10 c11 c12 c13 c14 c20 c21 c22 c23 c24 c30 c31 c32 c33 c34 z20 z21 z22 z23 z24 z30 z31 z32 z33 z34
  obtain ⟨c00, c01, c02, c03, c04, c10, c11, c12, c13, c14, c20, c21, c22, c23, c24, c30, c31, c32, c33, c34, z20, z21, z22, z23, z24, z30, z31, z32, z33, z34⟩ := hcs
  clear hb3 hz2
  go_wp2_with fail
  have hb4 : Below w3.heap.size w3 (w3.alloc (.cells #[.bool x1, .bool x2, .bool x3, .bool x4, .bool x5, .bool y1, .bool y2, .bool y3, .bool y4, .bool y5] 145)) := (Below.refl _ _).alloc (Nat.le_refl _) _
  have HB4 : Hid (Below w.heap.size w (w3.alloc (.cells #[.bool x1, .bool x2, .bool x3, .bool x4, .bool x5, .bool y1, .bool y2, .bool y3, .bool y4, .bool y5] 145))) := Lib.hid (below2S HB3.out hb4)
  have hcs := act30 hb4 c00 c01 c02 c03 c04 c10 c11 c12 c13 c14 c20 c21 c22 c23 c24 c30 c31 c32 c33 c34 z20 z21 z22 z23 z24 z30 z31 z32 z33 z34
  clear c00 c01 c02 c03 c04 c10 c11 c12 c13 c14 c20 c21 c22 c23 c24 c30 c31 c32 c33 c34 z20 z21 z22 z23 z24 z30 z31 z32 z33 z34
  obtain ⟨c00, c01, c02, c03, c04, c10, c11, c12, c13, c14, c20, c21, c22, c23, c24, c30, c31, c32, c33, c34, z20, z21, z22, z23, z24, z30, z31, z32, z33, z34⟩ := hcs
  go_region
  try go_wp2_with fail
  obtain ⟨r0, r1, r2, r3, r4, r5, r6, r7, r8, r9⟩ := set10_get (w3.alloc (.cells #[.bool x1, .bool x2, .bool x3, .bool x4, .bool x5, .bool y1, .bool y2, .bool y3, .bool y4, .bool y5] 145)) (w.heap.size + 1 + 1) (w.heap.size + 1 + 1 + 1) (by omega) (.bool a1) (.bool a2) (.bool a3) (.bool a4) (.bool a5) (.bool b1) (.bool b2) (.bool b3) (.bool b4) (.bool b5) _ _ _ _ _ _ _ _ _ _ c20 c21 c22 c23 c24 c30 c31 c32 c33 c34
  have hB := set10_below HB4.out (w.heap.size + 1 + 1) (w.heap.size + 1 + 1 + 1) (by omega) (by omega) (.bool a1) (.bool a2) (.bool a3) (.bool a4) (.bool a5) (.bool b1) (.bool b2) (.bool b3) (.bool b4) (.bool b5)
  show bodyPost _ _ _ _ _ (set10 (w3.alloc (.cells #[.bool x1, .bool x2, .bool x3, .bool x4, .bool x5, .bool y1, .bool y2, .bool y3, .bool y4, .bool y5] 145)) (w.heap.size + 1 + 1) (w.heap.size + 1 + 1 + 1) (.bool a1) (.bool a2) (.bool a3) (.bool a4) (.bool a5) (.bool b1) (.bool b2) (.bool b3) (.bool b4) (.bool b5)).drew
  exact bodyPost_ret (v := actE (⟨a1, a2, a3, a4, a5⟩, ⟨b1, b2, b3, b4, b5⟩, er)) (by simp [results, Tryz.results64, go_sem, actE, r0, r1, r2, r3, r4, r5, r6, r7, r8, r9]) rfl ⟨rfl, hB.drew⟩

set_option maxHeartbeats 3200000 in
set_option maxRecDepth 100000 in
theorem sact_ok5 (a1 a2 a3 a4 a5 b1 b2 b3 b4 b5 : Bool) {x1 x2 x3 x4 x5 y1 y2 y3 y4 y5 : Bool} (HM : Hid (suMay ⟨a1, a2, a3, a4, a5⟩ ⟨b1, b2, b3, b4, b5⟩ = true)) (HD : Hid (suDo ⟨a1, a2, a3, a4, a5⟩ ⟨b1, b2, b3, b4, b5⟩ 5 = (⟨x1, x2, x3, x4, x5⟩, ⟨y1, y2, y3, y4, y5⟩, 0))) (w : World) :
    Calls Tryz.prog 64 #[.agg #[.bool a1, .bool a2, .bool a3, .bool a4, .bool a5], .agg #[.bool b1, .bool b2, .bool b3, .bool b4, .bool b5], .int .i64 5] w fun e w' => e = .returned (actE (⟨x1, x2, x3, x4, x5⟩, ⟨y1, y2, y3, y4, y5⟩, 0)) ∧ Below w.heap.size w w' := by
  have B0 : Hid (Below w.heap.size w (((((w.alloc (.cells #[.bool a1, .bool a2, .bool a3, .bool a4, .bool a5] 66)).alloc (.cells #[.bool b1, .bool b2, .bool b3, .bool b4, .bool b5] 66)).alloc (.cells #[.bool false, .bool false, .bool false, .bool false, .bool false] 66)).alloc (.cells #[.bool false, .bool false, .bool false, .bool false, .bool false] 66)))) := Lib.hid (((((Below.refl _ _).alloc (Nat.le_refl _) _).alloc (by simp) _).alloc (by simp; omega) _).alloc (by simp; omega) _)
  go_enter Tryz.func64, Tryz.ntmps64
  go_wp2_with fail
  refine (kinds_any _).mono ?_
  rintro e w1 ⟨rfl, hf, hb⟩
  have hl0 := hf.look 5 (by decide)
  have hl1 : ∀ B, B = (((((w.alloc (.cells #[.bool a1, .bool a2, .bool a3, .bool a4, .bool a5] 66)).alloc (.cells #[.bool b1, .bool b2, .bool b3, .bool b4, .bool b5] 66)).alloc (.cells #[.bool false, .bool false, .bool false, .bool false, .bool false] 66)).alloc (.cells #[.bool false, .bool false, .bool false, .bool false, .bool false] 66))).heap.size → (Instr.lookup 142 (.map (some B)) (.int .i64 5) true).run Tryz.prog w1 = .ok (.tuple #[.func (.func 116) #[] #[], .bool true]) w1 := fun B e => by rw [e]; exact hl0
  have hl := hl1 (w.heap.size + 1 + 1 + 1 + 1) (by simp)
  clear hl0 hl1
  have HB1 : Hid (Below w.heap.size w w1) := Lib.hid (below2S B0.out hb)
  have hz1 : w.heap.size + 1 + 1 + 1 + 1 ≤ w1.heap.size := by have := hb.size; simp at this; omega
  obtain ⟨c00, c01, c02, c03, c04, c10, c11, c12, c13, c14, c20, z20, c21, z21, c22, z22, c23, z23, c24, z24, c30, z30, c31, z31, c32, z32, c33, z33, c34, z34⟩ := act_cells hb
  clear hf hb
  go_wp2_with fail
  refine (smay_eq _ _ _ _ _ _ _ _ _ _ HM _).mono ?_
  rintro e w2 ⟨rfl, rfl⟩
  obtain ⟨w2, hw2⟩ : ∃ w2, w2 = (w1.alloc (.cells #[.bool a1, .bool a2, .bool a3, .bool a4, .bool a5] 66)).alloc (.cells #[.bool b1, .bool b2, .bool b3, .bool b4, .bool b5] 66) := ⟨_, rfl⟩
  rw [← hw2]
  have hb2 : Below w1.heap.size w1 w2 := by rw [hw2]; exact ((Below.refl _ _).alloc (Nat.le_refl _) _).alloc (by simp) _
  have HB2 : Hid (Below w.heap.size w w2) := Lib.hid (below2S HB1.out hb2)
  have hz2 : w.heap.size + 1 + 1 + 1 + 1 ≤ w2.heap.size := Nat.le_trans hz1 hb2.size
  clear hw2
  have hcs := act30 hb2 c00 c01 c02 c03 c04 c10 c11 c12 c13 c14 c20 c21 c22 c23 c24 c30 c31 c32 c33 c34 z20 z21 z22 z23 z24 z30 z31 z32 z33 z34
  clear c00 c01 c02 c03 c04 c10 c11 c12 c13 c14 c20 c21 c22 c23 c24 c30 c31 c32 c33 c34 z20 z21 z22 z23 z24 z30 z31 z32 z33 z34
  obtain ⟨c00, c01, c02, c03, c04, c10, c11, c12, c13, c14, c20, c21, c22, c23, c24, c30, c31, c32, c33, c34, z20, z21, z22, z23, z24, z30, z31, z32, z33, z34⟩ := hcs
  clear hb2 hz1
  go_wp2_with fail
  refine (block_eq _ _ _ _ _ _ _ _ _ _ HD _).mono ?_
  rintro e w3 ⟨rfl, hb3⟩
  have HB3 : Hid (Below w.heap.size w w3) := Lib.hid (below2S HB2.out hb3)
  have hz3 : w.heap.size + 1 + 1 + 1 + 1 ≤ w3.heap.size := Nat.le_trans hz2 hb3.size
  have hcs := act30 hb3 c00 c01 c02 c03 c04 c10 c11 c12 c13 c14 c20 c21 c22 c23 c24 c30 c31 c32 c33 c34 z20 z21 z22 z23 z24 z30 z31 z32 z33 z34
  clear c00 c01 c02 c03 c04 c10 c11 c12 c13 c14 c20 c21 c22 c23 c24 c30 c31 c32 c33 c34 z20 z21 z22 z23 z24 z30 z31 z32 z33 z34
  obtain ⟨c00, c01, c02, c03, c04, c10, c11, c12, c13, c14, c20, c21, c22, c23, c24, c30, c31, c32, c33, c34, z20, z21, z22, z23, z24, z30, z31, z32, z33, z34⟩ := hcs
  clear hb3 hz2
  go_wp2_with fail
  have hb4 : Below w3.heap.size w3 (w3.alloc (.cells #[.bool x1, .bool x2, .bool x3, .bool x4, .bool x5, .bool y1, .bool y2, .bool y3, .bool y4, .bool y5] 145)) := (Below.refl _ _).alloc (Nat.le_refl _) _
  have HB4 : Hid (Below w.heap.size w (w3.alloc (.cells #[.bool x1, .bool x2, .bool x3, .bool x4, .bool x5, .bool y1, .bool y2, .bool y3, .bool y4, .bool y5] 145))) := Lib.hid (below2S HB3.out hb4)
  have hcs := act30 hb4 c00 c01 c02 c03 c04 c10 c11 c12 c13 c14 c20 c21 c22 c23 c24 c30 c31 c32 c33 c34 z20 z21 z22 z23 z24 z30 z31 z32 z33 z34
  clear c00 c01 c02 c03 c04 c10 c11 c12 c13 c14 c20 c21 c22 c23 c24 c30 c31 c32 c33 c34 z20 z21 z22 z23 z24 z30 z31 z32 z33 z34
  obtain ⟨c00, c01, c02, c03, c04, c10, c11, c12, c13, c14, c20, c21, c22, c23, c24, c30, c31, c32, c33, c34, z20, z21, z22, z23, z24, z30, z31, z32, z33, z34⟩ := hcs
  go_region
  try go_wp2_with fail
  obtain ⟨r0, r1, r2, r3, r4, r5, r6, r7, r8, r9⟩ := set10_get (w3.alloc (.cells #[.bool x1, .bool x2, .bool x3, .bool x4, .bool x5, .bool y1, .bool y2, .bool y3, .bool y4, .bool y5] 145)) (w.heap.size + 1 + 1) (w.heap.size + 1 + 1 + 1) (by omega) (.bool x1) (.bool x2) (.bool x3) (.bool x4) (.bool x5) (.bool y1) (.bool y2) (.bool y3) (.bool y4) (.bool y5) _ _ _ _ _ _ _ _ _ _ c20 c21 c22 c23 c24 c30 c31 c32 c33 c34
  have hB := set10_below HB4.out (w.heap.size + 1 + 1) (w.heap.size + 1 + 1 + 1) (by omega) (by omega) (.bool x1) (.bool x2) (.bool x3) (.bool x4) (.bool x5) (.bool y1) (.bool y2) (.bool y3) (.bool y4) (.bool y5)
  show bodyPost _ _ _ _ _ (set10 (w3.alloc (.cells #[.bool x1, .bool x2, .bool x3, .bool x4, .bool x5, .bool y1, .bool y2, .bool y3, .bool y4, .bool y5] 145)) (w.heap.size + 1 + 1) (w.heap.size + 1 + 1 + 1) (.bool x1) (.bool x2) (.bool x3) (.bool x4) (.bool x5) (.bool y1) (.bool y2) (.bool y3) (.bool y4) (.bool y5)).drew
  exact bodyPost_ret (v := actE (⟨x1, x2, x3, x4, x5⟩, ⟨y1, y2, y3, y4, y5⟩, 0)) (by simp [results, Tryz.results64, go_sem, actE, r0, r1, r2, r3, r4, r5, r6, r7, r8, r9]) rfl ⟨rfl, hB.drew⟩

end Go.Proofs.YthfkfonfiejbmaaGreat

end

section

/-
  THE CONTRACT OF subs.Act at kind 6, of items that may be.
-/
namespace Go.Proofs.YthfkfonfiejbmaaGreat
open Go.RowKit

theorem unblock_eq (a1 a2 a3 a4 a5 b1 b2 b3 b4 b5 : Bool) {x1 x2 x3 x4 x5 y1 y2 y3 y4 y5 : Bool} {er : Nat} (h : Hid (suDo ⟨a1, a2, a3, a4, a5⟩ ⟨b1, b2, b3, b4, b5⟩ 6 = (⟨x1, x2, x3, x4, x5⟩, ⟨y1, y2, y3, y4, y5⟩, er))) (w : World) :
    Calls Tryz.prog 117 #[.agg #[.bool a1, .bool a2, .bool a3, .bool a4, .bool a5, .bool b1, .bool b2, .bool b3, .bool b4, .bool b5]] w fun e w' => e = .returned (.tuple #[.agg #[.bool x1, .bool x2, .bool x3, .bool x4, .bool x5, .bool y1, .bool y2, .bool y3, .bool y4, .bool y5], .int .i64 er]) ∧ Below w.heap.size w w' := by
  have g := unblock_any a1 a2 a3 a4 a5 b1 b2 b3 b4 b5 w
  rw [h.out] at g
  exact g

set_option maxHeartbeats 3200000 in
set_option maxRecDepth 100000 in
theorem sact_err6 (a1 a2 a3 a4 a5 b1 b2 b3 b4 b5 : Bool) {x1 x2 x3 x4 x5 y1 y2 y3 y4 y5 : Bool} {er : Nat} (he : er ≠ 0) (HM : Hid (suMay ⟨a1, a2, a3, a4, a5⟩ ⟨b1, b2, b3, b4, b5⟩ = true)) (HD : Hid (suDo ⟨a1, a2, a3, a4, a5⟩ ⟨b1, b2, b3, b4, b5⟩ 6 = (⟨x1, x2, x3, x4, x5⟩, ⟨y1, y2, y3, y4, y5⟩, er))) (w : World) :
    Calls Tryz.prog 64 #[.agg #[.bool a1, .bool a2, .bool a3, .bool a4, .bool a5], .agg #[.bool b1, .bool b2, .bool b3, .bool b4, .bool b5], .int .i64 6] w fun e w' => e = .returned (actE (⟨a1, a2, a3, a4, a5⟩, ⟨b1, b2, b3, b4, b5⟩, er)) ∧ Below w.heap.size w w' := by
  have t1 : ((er : Int) != 0) = true := by rw [bne_iff_ne]; omega
  clear he
  have B0 : Hid (Below w.heap.size w (((((w.alloc (.cells #[.bool a1, .bool a2, .bool a3, .bool a4, .bool a5] 66)).alloc (.cells #[.bool b1, .bool b2, .bool b3, .bool b4, .bool b5] 66)).alloc (.cells #[.bool false, .bool false, .bool false, .bool false, .bool false] 66)).alloc (.cells #[.bool false, .bool false, .bool false, .bool false, .bool false] 66)))) := Lib.hid (((((Below.refl _ _).alloc (Nat.le_refl _) _).alloc (by simp) _).alloc (by simp; omega) _).alloc (by simp; omega) _)
  go_enter Tryz.func64, Tryz.ntmps64
  go_wp2_with fail
  refine (kinds_any _).mono ?_
  rintro e w1 ⟨rfl, hf, hb⟩
  have hl0 := hf.look 6 (by decide)
  have hl1 : ∀ B, B = (((((w.alloc (.cells #[.bool a1, .bool a2, .bool a3, .bool a4, .bool a5] 66)).alloc (.cells #[.bool b1, .bool b2, .bool b3, .bool b4, .bool b5] 66)).alloc (.cells #[.bool false, .bool false, .bool false, .bool false, .bool false] 66)).alloc (.cells #[.bool false, .bool false, .bool false, .bool false, .bool false] 66))).heap.size → (Instr.lookup 142 (.map (some B)) (.int .i64 6) true).run Tryz.prog w1 = .ok (.tuple #[.func (.func 117) #[] #[], .bool true]) w1 := fun B e => by rw [e]; exact hl0
  have hl := hl1 (w.heap.size + 1 + 1 + 1 + 1) (by simp)
  clear hl0 hl1
  have HB1 : Hid (Below w.heap.size w w1) := Lib.hid (below2S B0.out hb)
  have hz1 : w.heap.size + 1 + 1 + 1 + 1 ≤ w1.heap.size := by have := hb.size; simp at this; omega
  obtain ⟨c00, c01, c02, c03, c04, c10, c11, c12, c13, c14, c20, z20, c21, z21, c22, z22, c23, z23, c24, z24, c30, z30, c31, z31, c32, z32, c33, z33, c34, z34⟩ := act_cells hb
  clear hf hb
  go_wp2_with fail
  refine (smay_eq _ _ _ _ _ _ _ _ _ _ HM _).mono ?_
  rintro e w2 ⟨rfl, rfl⟩
  obtain ⟨w2, hw2⟩ : ∃ w2, w2 = (w1.alloc (.cells #[.bool a1, .bool a2, .bool a3, .bool a4, .bool a5] 66)).alloc (.cells #[.bool b1, .bool b2, .bool b3, .bool b4, .bool b5] 66) := ⟨_, rfl⟩
  rw [← hw2]
  have hb2 : Below w1.heap.size w1 w2 := by rw [hw2]; exact ((Below.refl _ _).alloc (Nat.le_refl _) _).alloc (by simp) _
  have HB2 : Hid (Below w.heap.size w w2) := Lib.hid (below2S HB1.out hb2)
  have hz2 : w.heap.size + 1 + 1 + 1 + 1 ≤ w2.heap.size := Nat.le_trans hz1 hb2.size
  clear hw2
  have hcs := act30 hb2 c00 c01 c02 c03 c04 c10 c11 c12 c13 c14 c20 c21 c22 c23 c24 c30 c31 c32 c33 c34 z20 z21 z22 z23 z24 z30 z31 z32 z33 z34
  clear c00 c01 c02 c03 c04 c10 c11 c12 c13 c14 c20 c21 c22 c23 c24 c30 c31 c32 c33 c34 z20 z21 z22 z23 z24 z30 z31 z32 z33 z34
  obtain ⟨c00, c01, c02, c03, c04, c10, c11, c12, c13, c14, c20, c21, c22, c23, c24, c30, c31, c32, c33, c34, z20, z21, z22, z23, z24, z30, z31, z32, z33, z34⟩ := hcs
  clear hb2 hz1
  go_wp2_with fail
  refine (unblock_eq _ _ _ _ _ _ _ _ _ _ HD _).mono ?_
  rintro e w3 ⟨rfl, hb3⟩
  have HB3 : Hid (Below w.heap.size w w3) := Lib.hid (below2S HB2.out hb3)
  have hz3 : w.heap.size + 1 + 1 + 1 + 1 ≤ w3.heap.size := Nat.le_trans hz2 hb3.size
  have hcs := act30 hb3 c00 c01 c02 c03 c04 c10 c11 c12 c13 c14 c20 c21 c22 c23 c24 c30 c31 c32 c33 c34 z20 z21 z22 z23 z24 z30 z31 z32 z33 z34
  clear c00 c01 c02 c03 c04 c10 c11 c12 c13 c14 c20 c21 c22 c23 c24 c30 c31 c32 c33 c34 z20 z21 z22 z23 z24 z30 z31 z32 z33 z34
  obtain ⟨c00, c01, c02, c03, c04, c10, c11, c12, c13, c14, c20, c21, c22, c23, c24, c30, c31, c32, c33, c34, z20, z21, z22, z23, z24, z30, z31, z32, z33, z34⟩ := hcs
  clear hb3 hz2
  go_wp2_with fail
  have hb4 : Below w3.heap.size w3 (w3.alloc (.cells #[.bool x1, .bool x2, .bool x3, .bool x4, .bool x5, .bool y1, .bool y2, .bool y3, .bool y4, .bool y5] 145)) := (Below.refl _ _).alloc (Nat.le_refl _) _
  have HB4 : Hid (Below w.heap.size w (w3.alloc (.cells #[.bool x1, .bool x2, .bool x3, .bool x4, .bool x5, .bool y1, .bool y2, .bool y3, .bool y4, .bool y5] 145))) := Lib.hid (below2S HB3.out hb4)
  have hcs := act30 hb4 c00 c01 c02 c03 c04 c10 c11 c12 c13 c14 c20 c21 c22 c23 c24 c30 c31 c32 c33 c34 z20 z21 z22 z23 z24 z30 z31 z32 z33 z34
  clear c00 c01 c02 c03 c04 c10 c11 c12 c13 c14 c20 c21 c22 c23 c24 c30 c31 c32 c33 c34 z20 z21 z22 z23 z24 z30 z31 z32 z33 z34
  obtain ⟨c00, c01, c02, c03, c04, c10, c11, c12, c13, c14, c20, c21, c22, c23, c24, c30, c31, c32, c33, c34, z20, z21, z22, z23, z24, z30, z31, z32, z33, z34⟩ := hcs
  go_region
  try go_wp2_with fail
  obtain ⟨r0, r1, r2, r3, r4, r5, r6, r7, r8, r9⟩ := set10_get (w3.alloc (.cells #[.bool x1, .bool x2, .bool x3, .bool x4, .bool x5, .bool y1, .bool y2, .bool y3, .bool y4, .bool y5] 145)) (w.heap.size + 1 + 1) (w.heap.size + 1 + 1 + 1) (by omega) (.bool a1) (.bool a2) (.bool a3) (.bool a4) (.bool a5) (.bool b1) (.bool b2) (.bool b3) (.bool b4) (.bool b5) _ _ _ _ _ _ _ _ _ _ c20 c21 c22 c23 c24 c30 c31 c32 c33 c34
  have hB := set10_below HB4.out (w.heap.size + 1 + 1) (w.heap.size + 1 + 1 + 1) (by omega) (by omega) (.bool a1) (.bool a2) (.bool a3) (.bool a4) (.bool a5) (.bool b1) (.bool b2) (.bool b3) (.bool b4) (.bool b5)
  show bodyPost _ _ _ _ _ (set10 (w3.alloc (.cells #[.bool x1, .bool x2, .bool x3, .bool x4, .bool x5, .bool y1, .bool y2, .bool y3, .bool y4, .bool y5] 145)) (w.heap.size + 1 + 1) (w.heap.size + 1 + 1 + 1) (.bool a1) (.bool a2) (.bool a3) (.bool a4) (.bool a5) (.bool b1) (.bool b2) (.bool b3) (.bool b4) (.bool b5)).drew
  exact bodyPost_ret (v := actE (⟨a1, a2, a3, a4, a5⟩, ⟨b1, b2, b3, b4, b5⟩, er)) (by simp [results, Tryz.results64, go_sem, actE, r0, r1, r2, r3, r4, r5, r6, r7, r8, r9]) rfl ⟨rfl, hB.drew⟩

set_option maxHeartbeats 3200000 in
set_option maxRecDepth 100000 in
theorem sact_ok6 (a1 a2 a3 a4 a5 b1 b2 b3 b4 b5 : Bool) {x1 x2 x3 x4 x5 y1 y2 y3 y4 y5 : Bool} (HM : Hid (suMay ⟨a1, a2, a3, a4, a5⟩ ⟨b1, b2, b3, b4, b5⟩ = true)) (HD : Hid (suDo ⟨a1, a2, a3, a4, a5⟩ ⟨b1, b2, b3, b4, b5⟩ 6 = (⟨x1, x2, x3, x4, x5⟩, ⟨y1, y2, y3, y4, y5⟩, 0))) (w : World) :
    Calls Tryz.prog 64 #[.agg #[.bool a1, .bool a2, .bool a3, .bool a4, .bool a5], .agg #[.bool b1, .bool b2, .bool b3, .bool b4, .bool b5], .int .i64 6] w fun e w' => e = .returned (actE (⟨x1, x2, x3, x4, x5⟩, ⟨y1, y2, y3, y4, y5⟩, 0)) ∧ Below w.heap.size w w' := by
  have B0 : Hid (Below w.heap.size w (((((w.alloc (.cells #[.bool a1, .bool a2, .bool a3, .bool a4, .bool a5] 66)).alloc (.cells #[.bool b1, .bool b2, .bool b3, .bool b4, .bool b5] 66)).alloc (.cells #[.bool false, .bool false, .bool false, .bool false, .bool false] 66)).alloc (.cells #[.bool false, .bool false, .bool false, .bool false, .bool false] 66)))) := Lib.hid (((((Below.refl _ _).alloc (Nat.le_refl _) _).alloc (by simp) _).alloc (by simp; omega) _).alloc (by simp; omega) _)
  go_enter Tryz.func64, Tryz.ntmps64
  go_wp2_with fail
  refine (kinds_any _).mono ?_
  rintro e w1 ⟨rfl, hf, hb⟩
  have hl0 := hf.look 6 (by decide)
  have hl1 : ∀ B, B = (((((w.alloc (.cells #[.bool a1, .bool a2, .bool a3, .bool a4, .bool a5] 66)).alloc (.cells #[.bool b1, .bool b2, .bool b3, .bool b4, .bool b5] 66)).alloc (.cells #[.bool false, .bool false, .bool false, .bool false, .bool false] 66)).alloc (.cells #[.bool false, .bool false, .bool false, .bool false, .bool false] 66))).heap.size → (Instr.lookup 142 (.map (some B)) (.int .i64 6) true).run Tryz.prog w1 = .ok (.tuple #[.func (.func 117) #[] #[], .bool true]) w1 := fun B e => by rw [e]; exact hl0
  have hl := hl1 (w.heap.size + 1 + 1 + 1 + 1) (by simp)
  clear hl0 hl1
  have HB1 : Hid (Below w.heap.size w w1) := Lib.hid (below2S B0.out hb)
  have hz1 : w.heap.size + 1 + 1 + 1 + 1 ≤ w1.heap.size := by have := hb.size; simp at this; omega
  obtain ⟨c00, c01, c02, c03, c04, c10, c11, c12, c13, c14, c20, z20, c21, z21, c22, z22, c23, z23, c24, z24, c30, z30, c31, z31, c32, z32, c33, z33, c34, z34⟩ := act_cells hb
  clear hf hb
  go_wp2_with fail
  refine (smay_eq _ _ _ _ _ _ _ _ _ _ HM _).mono ?_
  rintro e w2 ⟨rfl, rfl⟩
  obtain ⟨w2, hw2⟩ : ∃ w2, w2 = (w1.alloc (.cells #[.bool a1, .bool a2, .bool a3, .bool a4, .bool a5] 66)).alloc (.cells #[.bool b1, .bool b2, .bool b3, .bool b4, .bool b5] 66) := ⟨_, rfl⟩
  rw [← hw2]
  have hb2 : Below w1.heap.size w1 w2 := by rw [hw2]; exact ((Below.refl _ _).alloc (Nat.le_refl _) _).alloc (by simp) _
  have HB2 : Hid (Below w.heap.size w w2) := Lib.hid (below2S HB1.out hb2)
  have hz2 : w.heap.size + 1 + 1 + 1 + 1 ≤ w2.heap.size := Nat.le_trans hz1 hb2.size
  clear hw2
  have hcs := act30 hb2 c00 c01 c02 c03 c04 c10 c11 c12 c13 c14 c20 c21 c22 c23 c24 c30 c31 c32 c33 c34 z20 z21 z22 z23 z24 z30 z31 z32 z33 z34
  clear c00 c01 c02 c03 c04 c10 c11 c12 c13 c14 c20 c21 c22 c23 c24 c30 c31 c32 c33 c34 z20 z21 z22 z23 z24 z30 z31 z32 z33 z34
  obtain ⟨c00, c01, c02, c03, c04, c10, c11, c12, c13, c14, c20, c21, c22, c23, c24, c30, c31, c32, c33, c34, z20, z21, z22, z23, z24, z30, z31, z32, z33, z34⟩ := hcs
  clear hb2 hz1
  go_wp2_with fail
  refine (unblock_eq _ _ _ _ _ _ _ _ _ _ HD _).mono ?_
  rintro e w3 ⟨rfl, hb3⟩
  have HB3 : Hid (Below w.heap.size w w3) := Lib.hid (below2S HB2.out hb3)
  have hz3 : w.heap.size + 1 + 1 + 1 + 1 ≤ w3.heap.size := Nat.le_trans hz2 hb3.size
  have hcs := act30 hb3 c00 c01 c02 c03 c04 c10 c11 c12 c13 c14 c20 c21 c22 c23 c24 c30 c31 c32 c33 c34 z20 z21 z22 z23 z24 z30 z31 z32 z33 z34
  clear c00 c01 c02 c03 c04 c10 c11 c12 c13 c14 c20 c21 c22 c23 c24 c30 c31 c32 c33 c34 z20 z21 z22 z23 z24 z30 z31 z32 z33 z34
  obtain ⟨c00, c01, c02, c03, c04, c10, c11, c12, c13, c14, c20, c21, c22, c23, c24, c30, c31, c32, c33, c34, z20, z21, z22, z23, z24, z30, z31, z32, z33, z34⟩ := hcs
  clear hb3 hz2
  go_wp2_with fail
  have hb4 : Below w3.heap.size w3 (w3.alloc (.cells #[.bool x1, .bool x2, .bool x3, .bool x4, .bool x5, .bool y1, .bool y2, .bool y3, .bool y4, .bool y5] 145)) := (Below.refl _ _).alloc (Nat.le_refl _) _
  have HB4 : Hid (Below w.heap.size w (w3.alloc (.cells #[.bool x1, .bool x2, .bool x3, .bool x4, .bool x5, .bool y1, .bool y2, .bool y3, .bool y4, .bool y5] 145))) := Lib.hid (below2S HB3.out hb4)
  have hcs := act30 hb4 c00 c01 c02 c03 c04 c10 c11 c12 c13 c14 c20 c21 c22 c23 c24 c30 c31 c32 c33 c34 z20 z21 z22 z23 z24 z30 z31 z32 z33 z34
  clear c00 c01 c02 c03 c04 c10 c11 c12 c13 c14 c20 c21 c22 c23 c24 c30 c31 c32 c33 c34 z20 z21 z22 z23 z24 z30 z31 z32 z33 z34
  obtain ⟨c00, c01, c02, c03, c04, c10, c11, c12, c13, c14, c20, c21, c22, c23, c24, c30, c31, c32, c33, c34, z20, z21, z22, z23, z24, z30, z31, z32, z33, z34⟩ := hcs
  go_region
  try go_wp2_with fail
  obtain ⟨r0, r1, r2, r3, r4, r5, r6, r7, r8, r9⟩ := set10_get (w3.alloc (.cells #[.bool x1, .bool x2, .bool x3, .bool x4, .bool x5, .bool y1, .bool y2, .bool y3, .bool y4, .bool y5] 145)) (w.heap.size + 1 + 1) (w.heap.size + 1 + 1 + 1) (by omega) (.bool x1) (.bool x2) (.bool x3) (.bool x4) (.bool x5) (.bool y1) (.bool y2) (.bool y3) (.bool y4) (.bool y5) _ _ _ _ _ _ _ _ _ _ c20 c21 c22 c23 c24 c30 c31 c32 c33 c34
  have hB := set10_below HB4.out (w.heap.size + 1 + 1) (w.heap.size + 1 + 1 + 1) (by omega) (by omega) (.bool x1) (.bool x2) (.bool x3) (.bool x4) (.bool x5) (.bool y1) (.bool y2) (.bool y3) (.bool y4) (.bool y5)
  show bodyPost _ _ _ _ _ (set10 (w3.alloc (.cells #[.bool x1, .bool x2, .bool x3, .bool x4, .bool x5, .bool y1, .bool y2, .bool y3, .bool y4, .bool y5] 145)) (w.heap.size + 1 + 1) (w.heap.size + 1 + 1 + 1) (.bool x1) (.bool x2) (.bool x3) (.bool x4) (.bool x5) (.bool y1) (.bool y2) (.bool y3) (.bool y4) (.bool y5)).drew
  exact bodyPost_ret (v := actE (⟨x1, x2, x3, x4, x5⟩, ⟨y1, y2, y3, y4, y5⟩, 0)) (by simp [results, Tryz.results64, go_sem, actE, r0, r1, r2, r3, r4, r5, r6, r7, r8, r9]) rfl ⟨rfl, hB.drew⟩

end Go.Proofs.YthfkfonfiejbmaaGreat

end

section

/-
  THE CONTRACTS OF subs.Act AND OF THE DOCUMENT'S Act, whatever is done.
-/
namespace Go.Proofs.YthfkfonfiejbmaaGreat
open Go.RowKit

theorem suDo_shape (a b : It) (k : Int) : ∃ x1 x2 x3 x4 x5 y1 y2 y3 y4 y5 er, suDo a b k = (⟨x1, x2, x3, x4, x5⟩, ⟨y1, y2, y3, y4, y5⟩, er) := by
  obtain ⟨⟨x1, x2, x3, x4, x5⟩, ⟨y1, y2, y3, y4, y5⟩, er⟩ := suDo a b k
  exact ⟨x1, x2, x3, x4, x5, y1, y2, y3, y4, y5, er, rfl⟩

theorem suDo_err {a b : It} {k : Int} {x y : It} {er : Nat} (hm : suMay a b = true) (h1 : 1 ≤ k) (h6 : k ≤ 6) (h : suDo a b k = (x, y, er)) (he : er ≠ 0) : x = a ∧ y = b :=
  suAct_err (k := k) (e := er) (by unfold suAct; rw [if_pos ⟨hm, h1, h6⟩]; exact h) he

theorem suAct_in {a b : It} {k : Int} (hm : suMay a b = true) (h1 : 1 ≤ k) (h6 : k ≤ 6) : suAct a b k = suDo a b k := by
  unfold suAct
  rw [if_pos ⟨hm, h1, h6⟩]

theorem suAct_low {a b : It} {k : Int} (h : k < 1 ∨ 6 < k) : suAct a b k = (a, b, 1) := by
  unfold suAct
  rw [if_neg (fun h' => by omega)]

theorem suAct_not {a b : It} {k : Int} (h : suMay a b = false) : suAct a b k = (a, b, 1) := by
  unfold suAct
  rw [if_neg (fun h' => by rw [h] at h'; simp at h')]

theorem sact_any (a1 a2 a3 a4 a5 b1 b2 b3 b4 b5 : Bool) (k : Int) (hk : (Lit.int .i64 k).wf = true) (w : World) :
    Calls Tryz.prog 64 #[.agg #[.bool a1, .bool a2, .bool a3, .bool a4, .bool a5], .agg #[.bool b1, .bool b2, .bool b3, .bool b4, .bool b5], .int .i64 k] w fun e w' => e = .returned (actE (suAct ⟨a1, a2, a3, a4, a5⟩ ⟨b1, b2, b3, b4, b5⟩ k)) ∧ Below w.heap.size w w' := by
  by_cases ho : k < 1 ∨ 6 < k
  · rw [suAct_low ho]
    exact sact_out a1 a2 a3 a4 a5 b1 b2 b3 b4 b5 k hk ho w
  · have hr : k = 1 ∨ k = 2 ∨ k = 3 ∨ k = 4 ∨ k = 5 ∨ k = 6 := by omega
    cases hm : suMay ⟨a1, a2, a3, a4, a5⟩ ⟨b1, b2, b3, b4, b5⟩ with
    | false =>
      rw [suAct_not hm]
      exact sact_not a1 a2 a3 a4 a5 b1 b2 b3 b4 b5 k hk (by show _ = _; rcases hr with rfl | rfl | rfl | rfl | rfl | rfl <;> rfl) hm w
    | true =>
      rw [suAct_in hm (by omega) (by omega)]
      obtain ⟨x1, x2, x3, x4, x5, y1, y2, y3, y4, y5, er, hd⟩ := suDo_shape ⟨a1, a2, a3, a4, a5⟩ ⟨b1, b2, b3, b4, b5⟩ k
      rw [hd]
      by_cases he : er = 0
      · subst he
        rcases hr with rfl | rfl | rfl | rfl | rfl | rfl
        · exact sact_ok1 a1 a2 a3 a4 a5 b1 b2 b3 b4 b5 hm hd w
        · exact sact_ok2 a1 a2 a3 a4 a5 b1 b2 b3 b4 b5 hm hd w
        · exact sact_ok3 a1 a2 a3 a4 a5 b1 b2 b3 b4 b5 hm hd w
        · exact sact_ok4 a1 a2 a3 a4 a5 b1 b2 b3 b4 b5 hm hd w
        · exact sact_ok5 a1 a2 a3 a4 a5 b1 b2 b3 b4 b5 hm hd w
        · exact sact_ok6 a1 a2 a3 a4 a5 b1 b2 b3 b4 b5 hm hd w
      · obtain ⟨e1, e2⟩ := suDo_err hm (by omega) (by omega) hd he
        rw [e1, e2]
        rcases hr with rfl | rfl | rfl | rfl | rfl | rfl
        · exact sact_err1 a1 a2 a3 a4 a5 b1 b2 b3 b4 b5 he hm hd w
        · exact sact_err2 a1 a2 a3 a4 a5 b1 b2 b3 b4 b5 he hm hd w
        · exact sact_err3 a1 a2 a3 a4 a5 b1 b2 b3 b4 b5 he hm hd w
        · exact sact_err4 a1 a2 a3 a4 a5 b1 b2 b3 b4 b5 he hm hd w
        · exact sact_err5 a1 a2 a3 a4 a5 b1 b2 b3 b4 b5 he hm hd w
        · exact sact_err6 a1 a2 a3 a4 a5 b1 b2 b3 b4 b5 he hm hd w

end Go.Proofs.YthfkfonfiejbmaaGreat

end

section

/-
  THE CONTRACT OF live OF LAYER 7's STATEMENTS: it returns true.
-/
namespace Go.Proofs.YthfkfonfiejbmaaGreat
open Go.RowKit

/-- An item in a block of its own. -/
def ItAt (w : World) (B : Nat) (a : It) : Prop :=
  w.cell? ⟨B, 0, none⟩ = some (.bool a.to) ∧ w.cell? ⟨B, 1, none⟩ = some (.bool a.fr) ∧ w.cell? ⟨B, 2, none⟩ = some (.bool a.out) ∧ w.cell? ⟨B, 3, none⟩ = some (.bool a.inn) ∧ w.cell? ⟨B, 4, none⟩ = some (.bool a.bl)

theorem cellLaterS {w w' : World} {a : Addr} {v : Value} (h : w.cell? a = some v) (hb : Below w.heap.size w w') : w'.cell? a = some v := by
  rw [hb.cell (World.block_lt_of_cell? _ _ h)]
  exact h

theorem ItAt.later {w w' : World} {B : Nat} {a : It} (h : ItAt w B a) (hb : Below w.heap.size w w') : ItAt w' B a :=
  ⟨cellLaterS h.1 hb, cellLaterS h.2.1 hb, cellLaterS h.2.2.1 hb, cellLaterS h.2.2.2.1 hb, cellLaterS h.2.2.2.2 hb⟩

theorem itAt_made (w : World) (a : It) (B : Nat) (hB : B = w.heap.size) : ItAt (w.alloc (.cells #[.bool a.to, .bool a.fr, .bool a.out, .bool a.inn, .bool a.bl] 66)) B a := by
  subst hB
  refine ⟨?_, ?_, ?_, ?_, ?_⟩ <;> (rw [World.cell?_alloc_at _ _ _ _ rfl]; rfl)

theorem bl_allocS {w a : World} (h : Below w.heap.size w a) (o : Obj) : Below w.heap.size w (a.alloc o) := h.alloc h.size o

theorem smay_bl (a1 a2 a3 a4 a5 b1 b2 b3 b4 b5 : Bool) {r : Bool} (h : suMay ⟨a1, a2, a3, a4, a5⟩ ⟨b1, b2, b3, b4, b5⟩ = r) (w : World) :
    Calls Tryz.prog 96 #[.agg #[.bool a1, .bool a2, .bool a3, .bool a4, .bool a5], .agg #[.bool b1, .bool b2, .bool b3, .bool b4, .bool b5]] w fun e w' => e = .returned (.bool r) ∧ Below w.heap.size w w' := by
  have g := smay_any a1 a2 a3 a4 a5 b1 b2 b3 b4 b5 w
  rw [h] at g
  exact g.mono fun _ _ ⟨he, hw⟩ => ⟨he, by rw [hw]; exact ((Below.refl _ _).alloc (Nat.le_refl _) _).alloc (by simp) _⟩

theorem sempty_eq (a1 a2 a3 a4 a5 : Bool) {r : Bool} (h : suEmpty ⟨a1, a2, a3, a4, a5⟩ = r) (w : World) :
    Calls Tryz.prog 66 #[.agg #[.bool a1, .bool a2, .bool a3, .bool a4, .bool a5]] w fun e w' => e = .returned (.bool r) ∧ Below w.heap.size w w' := by
  have g := sempty_any a1 a2 a3 a4 a5 w
  rw [h] at g
  exact g

theorem rsmay_bl (a1 a2 a3 a4 a5 b1 b2 b3 b4 b5 : Bool) {r : Bool} (h : suMay ⟨a1, a2, a3, a4, a5⟩ ⟨b1, b2, b3, b4, b5⟩ = r) (w : World) :
    Calls Tryz.prog 38 #[.agg #[.bool a1, .bool a2, .bool a3, .bool a4, .bool a5], .agg #[.bool b1, .bool b2, .bool b3, .bool b4, .bool b5]] w fun e w' => e = .returned (.bool r) ∧ Below w.heap.size w w' := by
  have g := rsmay_any a1 a2 a3 a4 a5 b1 b2 b3 b4 b5 w
  rw [h] at g
  exact g.mono fun _ _ ⟨he, hw⟩ => ⟨he, by rw [hw]; exact ((Below.refl _ _).alloc (Nat.le_refl _) _).alloc (by simp) _⟩

theorem rsempty_eq (a1 a2 a3 a4 a5 : Bool) {r : Bool} (h : suEmpty ⟨a1, a2, a3, a4, a5⟩ = r) (w : World) :
    Calls Tryz.prog 39 #[.agg #[.bool a1, .bool a2, .bool a3, .bool a4, .bool a5]] w fun e w' => e = .returned (.bool r) ∧ Below w.heap.size w w' := by
  have g := rsempty_any a1 a2 a3 a4 a5 w
  rw [h] at g
  exact g

end Go.Proofs.YthfkfonfiejbmaaGreat

end

section

/-
  LAYER 8: entries in memory; how two stand; the entry of an Owner and a Contact.
-/
namespace Go.Proofs.YthfkfonfiejbmaaGreat
open Go.RowKit

/-- An entry by value: seven cells. -/
def entAgg (e : Ent) : Value := .agg #[.string ⟨e.o.toArray⟩, .string ⟨e.c.toArray⟩, .bool e.it.to, .bool e.it.fr, .bool e.it.out, .bool e.it.inn, .bool e.it.bl]

/-- Seven cells of a block. -/
def Cells7 (w : World) (b o : Nat) (e : Ent) : Prop :=
  w.cell? ⟨b, o, none⟩ = some (.string ⟨e.o.toArray⟩) ∧ w.cell? ⟨b, o + 1, none⟩ = some (.string ⟨e.c.toArray⟩) ∧ w.cell? ⟨b, o + 2, none⟩ = some (.bool e.it.to) ∧ w.cell? ⟨b, o + 3, none⟩ = some (.bool e.it.fr) ∧
    w.cell? ⟨b, o + 4, none⟩ = some (.bool e.it.out) ∧ w.cell? ⟨b, o + 5, none⟩ = some (.bool e.it.inn) ∧ w.cell? ⟨b, o + 6, none⟩ = some (.bool e.it.bl)

theorem Cells7.later {w w' : World} {b o : Nat} {e : Ent} (h : Cells7 w b o e) (hb : Below w.heap.size w w') : Cells7 w' b o e :=
  ⟨cellLaterS h.1 hb, cellLaterS h.2.1 hb, cellLaterS h.2.2.1 hb, cellLaterS h.2.2.2.1 hb, cellLaterS h.2.2.2.2.1 hb, cellLaterS h.2.2.2.2.2.1 hb, cellLaterS h.2.2.2.2.2.2 hb⟩

/-- A slice of entries that may be read. -/
def Ents (w : World) (v : Value) (l : List Ent) : Prop :=
  ∃ a cap, v = .slice a l.length cap ∧ l.length ≤ cap ∧ cap ≤ maxLen ∧ (a = none → cap = 0) ∧
    (l = [] ∨ ∃ b off, a = some ⟨b, off, none⟩ ∧ b < w.heap.size ∧ ∀ i, i < l.length → Cells7 w b (off + i * 7) (l.getD i Ent.zero))

theorem Ents.later {w w' : World} {v : Value} {l : List Ent} (h : Ents w v l) (hb : Below w.heap.size w w') : Ents w' v l := by
  obtain ⟨a, cap, h1, h2, h3, h4, h5⟩ := h
  refine ⟨a, cap, h1, h2, h3, h4, ?_⟩
  rcases h5 with h5 | ⟨b, off, e, hlt, hc⟩
  · exact .inl h5
  · exact .inr ⟨b, off, e, Nat.lt_of_lt_of_le hlt hb.size, fun i hi => (hc i hi).later hb⟩

theorem ents_nil (w : World) : Ents w (.slice none 0 0) [] := ⟨none, 0, rfl, by simp, by simp, fun _ => rfl, .inl rfl⟩

theorem Ents.row {w wr : World} {a : Option Addr} {n cap : Nat} {l : List Ent} (h : Ents w (.slice a n cap) l) (hb : Below w.heap.size w wr) (k : Nat) (hk : k < l.length) :
    ∃ b off, a = some ⟨b, off, none⟩ ∧ Cells7 wr b (off + k * 7) (l.getD k Ent.zero) := by
  obtain ⟨a', cap', e, _, _, _, h⟩ := h.later hb
  simp only [Value.slice.injEq] at e
  rcases h with h | ⟨b, off, e', _, hc⟩
  · rw [h] at hk; simp at hk
  · exact ⟨b, off, e.1.trans e', hc k hk⟩

theorem Ents.open' {w : World} {v : Value} {l : List Ent} (h : Ents w v l) : ∃ a cap, v = .slice a l.length cap ∧ l.length ≤ 9223372036854775807 := by
  obtain ⟨a, cap, e, h1, h2, _⟩ := h
  unfold maxLen at h2
  exact ⟨a, cap, e, by omega⟩

/-- Names that the contracts serve. -/
def ShortE (l : List Ent) : Prop := ∀ e ∈ l, e.o.length ≤ 4294967296 ∧ e.c.length ≤ 4294967296

theorem ShortE.get {l : List Ent} (h : ShortE l) {k : Nat} (hk : k < l.length) : (l.getD k Ent.zero).o.length ≤ 4294967296 ∧ (l.getD k Ent.zero).c.length ≤ 4294967296 := by
  rw [getD_at hk]
  exact h _ (List.getElem_mem hk)

/-- A number below 0, above 0, or 0. -/
def ordI (a b : List UInt8) : Int := if idLess a b = true then -1 else if idLess b a = true then 1 else 0

set_option maxHeartbeats 800000 in
set_option maxRecDepth 100000 in
theorem order_any (a b : List UInt8) (w : World) :
    Calls Tryz.prog 111 #[.string ⟨a.toArray⟩, .string ⟨b.toArray⟩] w fun e w' => e = .returned (.int .i64 (ordI a b)) ∧ Below w.heap.size w w' := by
  unfold ordI
  cases h1 : idLess a b with
  | true =>
    have H1 := Lib.hid h1
    clear h1
    simp only [if_true]
    go_enter Tryz.func111, Tryz.ntmps111
    go_wp2_with fail
    refine (less_eq a b H1 _).mono ?_
    rintro e w1 ⟨rfl, hb1⟩
    go_wp2_with fail
    go_ret
    exact ⟨rfl, hb1⟩
  | false =>
    have H1 := Lib.hid h1
    clear h1
    cases h2 : idLess b a with
    | true =>
      have H2 := Lib.hid h2
      clear h2
      simp only [if_true, Bool.false_eq_true, if_false]
      go_enter Tryz.func111, Tryz.ntmps111
      go_wp2_with fail
      refine (less_eq a b H1 _).mono ?_
      rintro e w1 ⟨rfl, hb1⟩
      go_wp2_with fail
      refine (less_eq b a H2 _).mono ?_
      rintro e w2 ⟨rfl, hb2⟩
      go_wp2_with fail
      go_ret
      exact ⟨rfl, below2S hb1 hb2⟩
    | false =>
      have H2 := Lib.hid h2
      clear h2
      simp only [Bool.false_eq_true, if_false]
      go_enter Tryz.func111, Tryz.ntmps111
      go_wp2_with fail
      refine (less_eq a b H1 _).mono ?_
      rintro e w1 ⟨rfl, hb1⟩
      go_wp2_with fail
      refine (less_eq b a H2 _).mono ?_
      rintro e w2 ⟨rfl, hb2⟩
      go_wp2_with fail
      go_ret
      exact ⟨rfl, below2S hb1 hb2⟩

/-- How two entries stand, as a number. -/
def entI (a b : Ent) : Int := if a.o = b.o then ordI a.c b.c else ordI a.o b.o

theorem ordI_lt (a b : List UInt8) : (ordI a b < 0) = (idLess a b = true) := by
  unfold ordI
  cases idLess a b <;> cases idLess b a <;> simp

theorem entI_lt (a b : Ent) : (entI a b < 0) = (entLt a b = true) := by
  unfold entI entLt
  by_cases h : a.o = b.o
  · rw [if_pos h, ordI_lt, h, idLess_irrefl]
    simp
  · rw [if_neg h, ordI_lt]
    simp [h]

theorem ordI_zero (a b : List UInt8) : (ordI a b = 0) = (a = b) := by
  unfold ordI
  rcases idLess_tri a b with ⟨h1, h2, h3⟩ | ⟨h1, h2, h3⟩ | ⟨h1, h2, h3⟩
  · simp [h1, h3]
  · simp [h1, h2, h3]
  · subst h3; simp [idLess_irrefl]

theorem entI_zero (a b : Ent) : (entI a b = 0) = (entIs a b = true) := by
  unfold entI entIs
  by_cases h : a.o = b.o
  · rw [if_pos h, ordI_zero]
    simp [h]
  · rw [if_neg h, ordI_zero]
    simp [h]

/-- The same with the answer in letters. -/
theorem order_eq (a b : List UInt8) {r : Int} (h : Hid (ordI a b = r)) (w : World) :
    Calls Tryz.prog 111 #[.string ⟨a.toArray⟩, .string ⟨b.toArray⟩] w fun e w' => e = .returned (.int .i64 r) ∧ Below w.heap.size w w' := by
  have := order_any a b w
  rwa [h.out] at this

set_option maxHeartbeats 800000 in
set_option maxRecDepth 100000 in
theorem rcompare_any (ao ac bo bc : List UInt8) (x1 x2 x3 x4 x5 y1 y2 y3 y4 y5 : Bool) (w : World) :
    Calls Tryz.prog 94 #[.agg #[.string ⟨ao.toArray⟩, .string ⟨ac.toArray⟩, .bool x1, .bool x2, .bool x3, .bool x4, .bool x5], .agg #[.string ⟨bo.toArray⟩, .string ⟨bc.toArray⟩, .bool y1, .bool y2, .bool y3, .bool y4, .bool y5]] w fun e w' => e = .returned (.int .i64 (entI ⟨ao, ac, ⟨x1, x2, x3, x4, x5⟩⟩ ⟨bo, bc, ⟨y1, y2, y3, y4, y5⟩⟩)) ∧ Below w.heap.size w w' := by
  have B0 : Hid (Below w.heap.size w ((w.alloc (.cells #[.string ⟨ao.toArray⟩, .string ⟨ac.toArray⟩, .bool x1, .bool x2, .bool x3, .bool x4, .bool x5] 68)).alloc (.cells #[.string ⟨bo.toArray⟩, .string ⟨bc.toArray⟩, .bool y1, .bool y2, .bool y3, .bool y4, .bool y5] 68))) := Lib.hid (((Below.refl _ _).alloc (Nat.le_refl _) _).alloc (by simp) _)
  unfold entI
  simp only
  by_cases h : ao = bo
  · subst h
    rw [if_pos rfl]
    obtain ⟨r, hr⟩ : ∃ r, ordI ac bc = r := ⟨_, rfl⟩
    rw [hr]
    have HO := Lib.hid (order_eq ac bc (Lib.hid hr))
    clear hr
    go_enter Tryz.func94, Tryz.ntmps94
    go_wp2_with fail
    refine (HO.out _).mono ?_
    rintro e w1 ⟨rfl, b⟩
    have B1 := Lib.hid (below2S B0.out b)
    clear b
    go_wp2_with fail
    go_ret
    exact ⟨rfl, B1.out⟩
  · rw [if_neg h]
    have t1 : (ao != bo) = true := by rw [bne_iff_ne]; exact h
    have t2 : (ao == bo) = false := by rw [beq_eq_false_iff_ne]; exact h
    obtain ⟨r, hr⟩ : ∃ r, ordI ao bo = r := ⟨_, rfl⟩
    rw [hr]
    have HO := Lib.hid (order_eq ao bo (Lib.hid hr))
    clear hr h
    go_enter Tryz.func94, Tryz.ntmps94
    go_wp2_with fail
    refine (HO.out _).mono ?_
    rintro e w1 ⟨rfl, b⟩
    have B1 := Lib.hid (below2S B0.out b)
    clear b
    go_wp2_with fail
    go_ret
    exact ⟨rfl, B1.out⟩

end Go.Proofs.YthfkfonfiejbmaaGreat

end

section

/-
  SMALL WORDS ON WORLDS, for contracts over slices of structs.
-/
namespace Go.Proofs.YthfkfonfiejbmaaGreat
open Go.RowKit

theorem below2Z {w a b : World} (h1 : Below w.heap.size w a) (h2 : Below a.heap.size a b) : Below w.heap.size w b := h1.trans (h2.mono h1.size)

theorem bl_newZ (w : World) (o : Obj) : Below w.heap.size w (w.alloc o) := (Below.refl _ _).alloc (Nat.le_refl _) o

theorem regrownZ {w w' : World} (h : ∃ p : Regrown, w' = Sort.grow (redrawn w p.d) p.os) : Below w.heap.size w w' := by
  obtain ⟨p, rfl⟩ := h
  exact below_regrown _ _ _

/-- A new block's cells. -/
theorem cellsAt_made {w : World} {cs : Array Value} {vs : List Value} (h : cs.toList = vs) (T : TypeId) {B : Nat} (hB : B = w.heap.size) : CellsAt (w.alloc (.cells cs T)) B 0 vs := by
  subst hB
  intro j u hu
  rw [Nat.zero_add, World.cell?_alloc_at _ _ _ _ rfl, ← hu, ← h]
  simp

end Go.Proofs.YthfkfonfiejbmaaGreat

end

section

/-
  A SLICE OF A SLICE OF STRUCTS.
-/
namespace Go.Proofs.YthfkfonfiejbmaaGreat
open Go.RowKit

/-- A slice that was built. -/
theorem rdS_made {α : Type} {P : Program} {vals : α → List Value} {sz : Nat} {zero : α} {T S : TypeId} {Z : Value} {bytes : Nat} (D : RowOK P vals sz zero T S Z bytes) {w : World} {cs : Array Value} {l : List α} (hcs : cs.toList = cellsS vals l) (hl : l.length ≤ 1000) {B : Nat} (hB : B = w.heap.size) :
    RdS vals sz zero (w.alloc (.cells cs T)) (.slice (some ⟨B, 0, none⟩) l.length l.length) l := by
  subst hB
  refine ⟨_, _, rfl, Nat.le_refl _, by unfold maxLen; omega, (fun e => by cases e), .inr ⟨w.heap.size, 0, rfl, by simp, fun i hi j u hu => ?_⟩⟩
  have hj : j < sz := by have := (List.getElem?_eq_some_iff.1 hu).1; rwa [D.len] at this
  have := cellsAt_made (w := w) (cs := cs) (vs := cellsS vals l) hcs T rfl (i * sz + j) u (by rw [cellsS_at D.len zero l i j hi hj]; exact hu)
  rwa [Nat.zero_add] at this ⊢

end Go.Proofs.YthfkfonfiejbmaaGreat

end

section

/-
  LAYER 8: entries as rows of seven cells.
-/
namespace Go.Proofs.YthfkfonfiejbmaaGreat
open Go.RowKit

def entVals (e : Ent) : List Value := [.string ⟨e.o.toArray⟩, .string ⟨e.c.toArray⟩, .bool e.it.to, .bool e.it.fr, .bool e.it.out, .bool e.it.inn, .bool e.it.bl]

theorem entOK : RowOK Tryz.prog entVals 7 Ent.zero 68 22 (.agg #[.string ⟨#[]⟩, .string ⟨#[]⟩, .bool false, .bool false, .bool false, .bool false, .bool false]) 40 where
  len _ := rfl
  one a u hu := by
    simp only [entVals, List.mem_cons, List.not_mem_nil, or_false] at hu
    rcases hu with rfl | rfl | rfl | rfl | rfl | rfl | rfl <;> rfl
  pos := by decide
  small := by decide
  under := Tryz.underlying22
  info := by kernel_rfl
  zvals := rfl
  fits := by decide

theorem cells7_at {w : World} {b o : Nat} {e : Ent} : Cells7 w b o e ↔ CellsAt w b o (entVals e) := by
  constructor
  · rintro ⟨h0, h1, h2, h3, h4, h5, h6⟩ j u hu
    match j, hu with
    | 0, hu => cases hu; exact h0
    | 1, hu => cases hu; exact h1
    | 2, hu => cases hu; exact h2
    | 3, hu => cases hu; exact h3
    | 4, hu => cases hu; exact h4
    | 5, hu => cases hu; exact h5
    | 6, hu => cases hu; exact h6
    | n + 7, hu => simp [entVals] at hu
  · intro h
    exact ⟨h 0 _ rfl, h 1 _ rfl, h 2 _ rfl, h 3 _ rfl, h 4 _ rfl, h 5 _ rfl, h 6 _ rfl⟩

end Go.Proofs.YthfkfonfiejbmaaGreat

end

section

/-
  slices.Clone, slices.Insert AND slices.Delete of one element, at elements of 7 cells.
-/
namespace Go.Proofs.YthfkfonfiejbmaaGreat
open Go.RowKit

set_option maxHeartbeats 800000 in
set_option maxRecDepth 100000 in
theorem ent_clone {w : World} {v : Value} {t : List Ent} (hv : RdS entVals 7 Ent.zero w v t) (hl : t.length ≤ 4294967) :
    Calls Tryz.prog 99 #[v] w fun e w' => ∃ u, e = .returned u ∧ OwnS entVals 7 68 w' w.heap.size u t ∧ Below w.heap.size w w' := by
  have HV := Lib.hid hv
  obtain ⟨a, cap, rfl, h1, h2, h3, h4⟩ := hv
  cases a with
  | none =>
    obtain rfl : cap = 0 := h3 rfl
    obtain rfl : t = [] := List.length_eq_zero_iff.1 (by omega)
    have heq := fun w => eqlS_nil_nil entOK w 0 0
    clear h4
    go_enter Tryz.func99, Tryz.ntmps99
    go_wp2_with fail
    go_ret
    exact ⟨_, rfl, ownS_nil _ _, Below.refl _ _⟩
  | some x =>
    have HS := Lib.hid ((HV.out.later ((Below.refl _ _).alloc (Nat.le_refl _) (.cells #[] 68))).src entOK)
    have heq := fun w => eqlS_nil_some entOK w x t.length cap
    clear h4 h3
    go_enter Tryz.func99, Tryz.ntmps99
    go_wp2_with (at_builtin; go_must (refine wpList_append_S entOK rfl _ _ rfl w.heap.size _ [] rfl (by exact ownS_made w) (some x) t.length cap t rfl rfl (fun e => nomatch e) ?c1 (by simp only [List.length_nil]; omega) (by simp) ?_))
    case c1 => intro ad had; obtain rfl := Option.some.inj had; exact HS.out
    intro v' w' ho' hb'
    have O := Lib.hid ho'
    have hbB : Hid (Below w.heap.size w w') := ((Below.refl w.heap.size w).alloc (Nat.le_refl _) _).trans hb'
    clear ho' hb'
    go_wp2_with fail
    go_ret
    exact ⟨_, rfl, by have := O.out; simpa using this, hbB.out⟩

theorem putS_end {β : Type} (t : List β) (r : β) : putS t t.length r = t ++ [r] := by simp [putS]

set_option maxHeartbeats 1600000 in
set_option maxRecDepth 100000 in
theorem ent_ins_end {w : World} {base : Nat} {v : Value} {t : List Ent} (ho : OwnS entVals 7 68 w base v t) (hbase : base ≤ w.heap.size) (hl : t.length ≤ 1000) {B : Nat} {r : Ent} (hr : LoneS entVals 68 w B r) :
    Calls Tryz.prog 101 #[v, .int .i64 t.length, .slice (some ⟨B, 0, none⟩) 1 1] w fun e w' => ∃ u, e = .returned u ∧ OwnS entVals 7 68 w' base u (putS t t.length r) ∧ Below base w w' := by
  have HO := Lib.hid ho
  have HS := Lib.hid hr.src
  have HE := Lib.hid (putS_end t r)
  have t0 : ((t.length : Int) == (t.length : Int)) = true := by simp
  rcases ho.2 with ⟨rfl, h0⟩ | ⟨g, cap, cur, rfl, _, _, hnc, hcm, _⟩
  · obtain rfl : t = [] := List.length_eq_zero_iff.1 h0
    clear ho hr h0
    go_enter Tryz.func101, Tryz.ntmps101
    go_wp2_with (at_builtin; go_must (refine wpList_append_S entOK rfl _ _ rfl base _ [] rfl (by exact HO.out) (some ⟨B, 0, none⟩) 1 1 [r] rfl rfl (fun e => nomatch e) ?c1 (by simp) hbase ?_))
    case c1 => intro ad had; obtain rfl := Option.some.inj had; exact HS.out
    intro v' w' ho' hb'
    have O := Lib.hid ho'
    have HB := Lib.hid hb'
    clear ho' hb'
    go_wp2_with fail
    go_ret
    exact ⟨_, rfl, O.out, HB.out⟩
  · unfold maxLen at hcm
    clear ho hr
    by_cases hc : cap = t.length
    · subst hc
      go_enter Tryz.func101, Tryz.ntmps101
      go_wp2_with (at_builtin; go_must (refine wpList_append_S entOK rfl _ _ rfl base _ t rfl (by exact HO.out) (some ⟨B, 0, none⟩) 1 1 [r] rfl rfl (fun e => nomatch e) ?c1 (by simp only [List.length_cons, List.length_nil]; omega) hbase ?_))
      case c1 => intro ad had; obtain rfl := Option.some.inj had; exact HS.out
      intro v' w' ho' hb'
      have O := Lib.hid ho'
      have HB := Lib.hid hb'
      clear ho' hb'
      go_wp2_with fail
      go_ret
      exact ⟨_, rfl, by rw [HE.out]; exact O.out, HB.out⟩
    · go_enter Tryz.func101, Tryz.ntmps101
      go_wp2_with (at_builtin; go_must (refine wpList_append_S entOK rfl _ _ rfl base _ t rfl (by exact HO.out) (some ⟨B, 0, none⟩) 1 1 [r] rfl rfl (fun e => nomatch e) ?c1 (by simp only [List.length_cons, List.length_nil]; omega) hbase ?_))
      case c1 => intro ad had; obtain rfl := Option.some.inj had; exact HS.out
      intro v' w' ho' hb'
      have O := Lib.hid ho'
      have HB := Lib.hid hb'
      clear ho' hb'
      go_wp2_with fail
      go_ret
      exact ⟨_, rfl, by rw [HE.out]; exact O.out, HB.out⟩

set_option maxHeartbeats 3200000 in
set_option maxRecDepth 100000 in
theorem ent_ins_grow {w : World} {base g cap : Nat} {t : List Ent} (ho : OwnS entVals 7 68 w base (.slice (some ⟨g, 0, none⟩) t.length cap) t) (hbase : base ≤ w.heap.size) (hl : t.length ≤ 1000) {i : Nat} (hi : i < t.length) (hc : cap = t.length) {B : Nat} {r : Ent} (hr : LoneS entVals 68 w B r) :
    Calls Tryz.prog 101 #[.slice (some ⟨g, 0, none⟩) t.length cap, .int .i64 i, .slice (some ⟨B, 0, none⟩) 1 1] w fun e w' => ∃ u, e = .returned u ∧ OwnS entVals 7 68 w' base u (putS t i r) ∧ Below base w w' := by
  subst hc
  have HO := Lib.hid ho
  have HR := Lib.hid hr
  have HE := Lib.hid (layS_grow Ent.zero hi r)
  have t0 : ((i : Int) == (t.length : Int)) = false := by simp; omega
  have t1 : ¬ t.length = i := by omega
  have hw1 : IntKind.i64.wrap ((i : Int) + 1) = (i : Int) + 1 := IntWalk.i64_in _ (by omega)
  have htn : ((i : Int) + 1).toNat = i + 1 := by omega
  have hb0 : (0 : Int) ≤ (i : Int) + 1 := by omega
  have hin : i ≤ t.length := by omega
  have hgw := ho.head.2.2.1
  have hBw := hr.lt
  clear ho hr
  go_enter Tryz.func101, Tryz.ntmps101
  go_wp2_with (with_reducible refine wpList_append_zero_S entOK Tryz.underlying3 rfl (.tmp 34) (.tmp 39) rfl base g t.length t.length t HO.out i (t.length + 1 - i) (t.length + 1) ((t.length : Int) + 1 - (i : Int)) rfl rfl (by omega) (by omega) (by omega) (by omega) (by omega) (by omega) ?_)
  intro w1 G h1 hG hGm hb1
  have O1 := Lib.hid h1
  have B1 := Lib.hid hb1
  have S1 := Lib.hid (HR.out.later hb1).src
  have P1 := Lib.hid (HO.out.later hb1)
  have hsz := hb1.size
  have hlen : (t.take i ++ List.replicate (t.length + 1 - i) Ent.zero).length = t.length + 1 := by rw [List.length_append, List.length_take, List.length_replicate]; omega
  have t2 : ¬ G = i := by omega
  have t3 : ¬ G = i + 1 := by omega
  have O1r : Hid (OwnCS 7 68 w1 w.heap.size w.heap.size (t.length + 1) G (cellsS entVals (t.take i ++ List.replicate (t.length + 1 - i) Ent.zero))) := h1.raw
  clear h1 hb1
  go_wp2_with (with_reducible refine wpList_copy_C entOK rfl (.tmp 43) (.tmp 44) rfl w.heap.size w.heap.size (t.length + 1) G _ O1r.out i (t.length + 1 - i) (G - i) ⟨B, 0, none⟩ 1 1 rfl rfl [r] (by simp only [List.length_singleton, Nat.min_def]; split <;> omega) S1.out (by simp only [List.length_singleton]; omega) ?_)
  intro w2 h2 hb2 hk2
  rw [cellsS_lay entOK.len] at h2
  have O2 := Lib.hid h2
  have B2 := Lib.hid (B1.out.trans (hb2.mono (Nat.le_refl _)))
  have P2 : Hid (SrcS entVals w2.drew ⟨g, i * 7, none⟩ (t.drop i)) := by
    show SrcS entVals _ _ _
    intro j x hx
    have := P1.out.src entOK i (t.length - i) (by omega) j x (by rw [List.take_of_length_le (by rw [List.length_drop]; omega)]; exact hx)
    exact (hk2 _ (by rw [Addr.add_lit]; show g ≠ w.heap.size; omega)).trans this
  clear h2 hb2 hk2 O1 O1r B1 S1
  go_wp2_with fail
  go_region_law (refine step_copy_C entOK rfl (.tmp 50) (.tmp 53) rfl w.heap.size w.heap.size (t.length + 1) G _ O2.out.drew (i + 1) (t.length - i) (G - (i + 1)) ⟨g, i * 7, none⟩ (t.length - i) (t.length - i) (by simp [Act.eval, Act.put]) (by simp [Act.eval, Act.put]) (t.drop i) (by simp only [List.length_drop, Nat.min_def]; split <;> omega) P2.out (by rw [List.length_drop]; omega) ?_; intro w3 h3 hb3 hk3)
  all_goals
    rw [cellsS_lay entOK.len, HE.out] at h3
    have O3 := Lib.hid (h3.rows (putS_len t i r).symm)
    have B3 := Lib.hid ((B2.out.mono hbase).drew.trans (hb3.mono hbase))
    clear h3 hb3 hk3
    go_wp2_with fail
    go_ret
    exact ⟨_, rfl, ownS_low O3.out hbase, B3.out⟩

set_option maxHeartbeats 3200000 in
set_option maxRecDepth 100000 in
theorem ent_ins_room {w : World} {base g cap : Nat} {t : List Ent} (ho : OwnS entVals 7 68 w base (.slice (some ⟨g, 0, none⟩) t.length cap) t) (hl : t.length ≤ 1000) {i : Nat} (hi : i < t.length) (hc : t.length < cap) (hcm : cap ≤ 9223372036854775807) {B : Nat} {r : Ent} (hr : LoneS entVals 68 w B r) (hne : B ≠ g) :
    Calls Tryz.prog 101 #[.slice (some ⟨g, 0, none⟩) t.length cap, .int .i64 i, .slice (some ⟨B, 0, none⟩) 1 1] w fun e w' => ∃ u, e = .returned u ∧ OwnS entVals 7 68 w' base u (putS t i r) ∧ Below base w w' := by
  obtain ⟨z, hz, hw⟩ := ownS_wider ho hc
  have HO := Lib.hid hw
  have HS := Lib.hid hr.src
  have hin2 : (i : Int) ≤ (t.length : Int) + 1 := by omega
  have S0 : Hid (SrcS entVals w.drew ⟨g, i * 7, none⟩ (t.drop i)) := by
    show SrcS entVals _ _ _
    intro j x hx
    exact ho.src entOK i (t.length - i) (by omega) j x (by rw [List.take_of_length_le (by rw [List.length_drop]; omega)]; exact hx)
  have HE := Lib.hid (layS_room entOK.len hi r z hz)
  have HG := Lib.hid ho.head.2.1
  have t0 : ((i : Int) == (t.length : Int)) = false := by simp; omega
  have t1 : ¬ cap = i := by omega
  have t2 : ¬ cap = i + 1 := by omega
  have hw1 : IntKind.i64.wrap ((i : Int) + 1) = (i : Int) + 1 := IntWalk.i64_in _ (by omega)
  have htn : ((i : Int) + 1).toNat = i + 1 := by omega
  have hb0 : (0 : Int) ≤ (i : Int) + 1 := by omega
  have hin : i ≤ t.length := by omega
  have hov : ∀ lb cb, (callFunc 119 #[.slice (some ⟨B, 0, none⟩) 1 1, .slice (some ⟨g, (i + 1) * 7, none⟩) lb cb]).run Tryz.prog w = .ok (.value (.bool false)) w := fun lb cb => by
    obtain ⟨_, _, _, _, _, cur, hg, hcs⟩ := ho.head
    rw [run_callFunc_extern Tryz.func119 (by kernel_rfl) (by kernel_rfl) (by kernel_rfl) (e := Extern.SlicesOverlaps.overlaps #[22, 22] #[4]) (by kernel_rfl),
      Lib.run_overlaps_apart w 22 4 68 Tryz.underlying22 7 (sizeS entOK) ⟨B, 0, none⟩ ⟨g, (i + 1) * 7, none⟩ 1 1 lb cb hne _ _ _ _ (hr.shape entOK.len) (ownS_shape hg) (by omega) (hr.free _) (hr.free _)]
    rfl
  clear ho hr hw
  go_enter Tryz.func101, Tryz.ntmps101
  go_wp2_with (simp only [hov])
  go_region_law (refine step_copy_C entOK rfl (.tmp 73) (.tmp 76) rfl base g (t.length + 1) cap _ HO.out.drew (i + 1) (t.length - i) (cap - (i + 1)) ⟨g, i * 7, none⟩ (t.length + 1 - i) (cap - i) (by simp [Act.eval, Act.put]) (by simp [Act.eval, Act.put]) (t.drop i) (by simp only [List.length_drop, Nat.min_def]; split <;> omega) S0.out (by rw [List.length_drop]; omega) ?_; intro w1 h1 hb1 hk1)
  all_goals
    have O1 := Lib.hid h1
    have B1 := Lib.hid ((Below.refl base w).drew.trans (hb1.mono HG.out))
    have S1 : Hid (SrcS entVals w1 ⟨B, 0, none⟩ [r]) := by
      show SrcS entVals _ _ _
      intro j x hx
      exact (hk1 _ (by rw [Addr.add_lit]; exact hne)).trans (HS.out j x hx)
    clear h1 hb1 hk1
    go_wp2_with (with_reducible refine wpList_copy_C entOK rfl (.tmp 80) (.tmp 81) rfl base g (t.length + 1) cap _ O1.out i (t.length + 1 - i) (cap - i) ⟨B, 0, none⟩ 1 1 rfl rfl [r] (by simp only [List.length_singleton, Nat.min_def]; split <;> omega) S1.out (by simp only [List.length_singleton]; omega) ?_)
    intro w2 h2 hb2 hk2
    rw [HE.out] at h2
    have O2 := Lib.hid (h2.rows (putS_len t i r).symm)
    have B2 := Lib.hid (B1.out.trans (hb2.mono HG.out))
    clear h2 hb2 hk2
    go_wp2_with fail
    go_ret
    exact ⟨_, rfl, O2.out, B2.out⟩

theorem ent_insert {w : World} {base : Nat} {v : Value} {t : List Ent} (ho : OwnS entVals 7 68 w base v t) (hbase : base ≤ w.heap.size) (hl : t.length ≤ 1000) {i : Nat} (hi : i ≤ t.length) {B : Nat} {r : Ent} (hr : LoneS entVals 68 w B r) (hne : ∀ g n c, v = .slice (some ⟨g, 0, none⟩) n c → B ≠ g) :
    Calls Tryz.prog 101 #[v, .int .i64 i, .slice (some ⟨B, 0, none⟩) 1 1] w fun e w' => ∃ u, e = .returned u ∧ OwnS entVals 7 68 w' base u (putS t i r) ∧ Below base w w' := by
  by_cases h : i = t.length
  · subst h
    exact ent_ins_end ho hbase hl hr
  · have hi' : i < t.length := by omega
    rcases ho.2 with ⟨rfl, h0⟩ | ⟨g, cap, cur, rfl, _, _, hnc, hcm, _⟩
    · omega
    · by_cases hc : cap = t.length
      · exact ent_ins_grow ho hbase hl hi' hc hr
      · unfold maxLen at hcm
        exact ent_ins_room ho hl hi' (by omega) (by omega) hr (hne _ _ _ rfl)

end Go.Proofs.YthfkfonfiejbmaaGreat

end
