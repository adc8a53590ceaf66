/-
  TEXTS OF THE PROOF, one behind the other: SubDo6, SubAct, SubLive, RosCmp, Seq, Aid, SeqS, RosRow.
-/
import Derived.Test.YtfkadkopolenbaaGR07
import Derived.Test.YtfkadkopolenbaaGR08
import Derived.Test.YtfkadkopolenbaaGR09
import Derived.Test.YtfkadkopolenbaaGR02
import Derived.Test.YtfkadkopolenbaaGR01
import Derived.Laws.IdiomCopy
import Derived.Laws.AppendOwnNone
import Derived.Lib.AppendZerosOnto
import Derived.Lib.Overlaps
import Derived.Deep.RegionLaw
import Derived.Laws.Externs
import Derived.Lib.SliceRun

section

/-
  THE CONTRACT OF subs.Act at kind 6, of items that may be.
-/
namespace Go.Proofs.Ytfkadkopolenbaa
open Go.RowKit

theorem unblock_eq (a1 a2 a3 a4 a5 b1 b2 b3 b4 b5 : Bool) {x1 x2 x3 x4 x5 y1 y2 y3 y4 y5 : Bool} {er : Nat} (h : Hid (suDo ⟨a1, a2, a3, a4, a5⟩ ⟨b1, b2, b3, b4, b5⟩ 6 = (⟨x1, x2, x3, x4, x5⟩, ⟨y1, y2, y3, y4, y5⟩, er))) (w : World) :
    Calls Try.prog 93 #[.agg #[.bool a1, .bool a2, .bool a3, .bool a4, .bool a5, .bool b1, .bool b2, .bool b3, .bool b4, .bool b5]] w fun e w' => e = .returned (.tuple #[.agg #[.bool x1, .bool x2, .bool x3, .bool x4, .bool x5, .bool y1, .bool y2, .bool y3, .bool y4, .bool y5], .int .i64 er]) ∧ Below w.heap.size w w' := by
  have g := unblock_any a1 a2 a3 a4 a5 b1 b2 b3 b4 b5 w
  rw [h.out] at g
  exact g

set_option maxHeartbeats 3200000 in
set_option maxRecDepth 100000 in
theorem sact_err6 (a1 a2 a3 a4 a5 b1 b2 b3 b4 b5 : Bool) {x1 x2 x3 x4 x5 y1 y2 y3 y4 y5 : Bool} {er : Nat} (he : er ≠ 0) (HM : Hid (suMay ⟨a1, a2, a3, a4, a5⟩ ⟨b1, b2, b3, b4, b5⟩ = true)) (HD : Hid (suDo ⟨a1, a2, a3, a4, a5⟩ ⟨b1, b2, b3, b4, b5⟩ 6 = (⟨x1, x2, x3, x4, x5⟩, ⟨y1, y2, y3, y4, y5⟩, er))) (w : World) :
    Calls Try.prog 31 #[.agg #[.bool a1, .bool a2, .bool a3, .bool a4, .bool a5], .agg #[.bool b1, .bool b2, .bool b3, .bool b4, .bool b5], .int .i64 6] w fun e w' => e = .returned (actE (⟨a1, a2, a3, a4, a5⟩, ⟨b1, b2, b3, b4, b5⟩, er)) ∧ Below w.heap.size w w' := by
  have t1 : ((er : Int) != 0) = true := by rw [bne_iff_ne]; omega
  clear he
  have B0 : Hid (Below w.heap.size w (((((w.alloc (.cells #[.bool a1, .bool a2, .bool a3, .bool a4, .bool a5] 26)).alloc (.cells #[.bool b1, .bool b2, .bool b3, .bool b4, .bool b5] 26)).alloc (.cells #[.bool false, .bool false, .bool false, .bool false, .bool false] 26)).alloc (.cells #[.bool false, .bool false, .bool false, .bool false, .bool false] 26)))) := Lib.hid (((((Below.refl _ _).alloc (Nat.le_refl _) _).alloc (by simp) _).alloc (by simp; omega) _).alloc (by simp; omega) _)
  go_enter Try.func31, Try.ntmps31
  go_wp2_with fail
  refine (kinds_any _).mono ?_
  rintro e w1 ⟨rfl, hf, hb⟩
  have hl0 := hf.look 6 (by decide)
  have hl1 : ∀ B, B = (((((w.alloc (.cells #[.bool a1, .bool a2, .bool a3, .bool a4, .bool a5] 26)).alloc (.cells #[.bool b1, .bool b2, .bool b3, .bool b4, .bool b5] 26)).alloc (.cells #[.bool false, .bool false, .bool false, .bool false, .bool false] 26)).alloc (.cells #[.bool false, .bool false, .bool false, .bool false, .bool false] 26))).heap.size → (Instr.lookup 87 (.map (some B)) (.int .i64 6) true).run Try.prog w1 = .ok (.tuple #[.func (.func 93) #[] #[], .bool true]) w1 := fun B e => by rw [e]; exact hl0
  have hl := hl1 (w.heap.size + 1 + 1 + 1 + 1) (by simp)
  clear hl0 hl1
  have HB1 : Hid (Below w.heap.size w w1) := Lib.hid (below2S B0.out hb)
  have hz1 : w.heap.size + 1 + 1 + 1 + 1 ≤ w1.heap.size := by have := hb.size; simp at this; omega
  obtain ⟨c00, c01, c02, c03, c04, c10, c11, c12, c13, c14, c20, z20, c21, z21, c22, z22, c23, z23, c24, z24, c30, z30, c31, z31, c32, z32, c33, z33, c34, z34⟩ := act_cells hb
  clear hf hb
  go_wp2_with fail
  refine (smay_eq _ _ _ _ _ _ _ _ _ _ HM _).mono ?_
  rintro e w2 ⟨rfl, rfl⟩
  obtain ⟨w2, hw2⟩ : ∃ w2, w2 = (w1.alloc (.cells #[.bool a1, .bool a2, .bool a3, .bool a4, .bool a5] 26)).alloc (.cells #[.bool b1, .bool b2, .bool b3, .bool b4, .bool b5] 26) := ⟨_, rfl⟩
  rw [← hw2]
  have hb2 : Below w1.heap.size w1 w2 := by rw [hw2]; exact ((Below.refl _ _).alloc (Nat.le_refl _) _).alloc (by simp) _
  have HB2 : Hid (Below w.heap.size w w2) := Lib.hid (below2S HB1.out hb2)
  have hz2 : w.heap.size + 1 + 1 + 1 + 1 ≤ w2.heap.size := Nat.le_trans hz1 hb2.size
  clear hw2
  replace c00 := (hb2.cell (p := ⟨w.heap.size, 0, none⟩) (by show w.heap.size < w1.heap.size; omega)).trans c00
  replace c01 := (hb2.cell (p := ⟨w.heap.size, 1, none⟩) (by show w.heap.size < w1.heap.size; omega)).trans c01
  replace c02 := (hb2.cell (p := ⟨w.heap.size, 2, none⟩) (by show w.heap.size < w1.heap.size; omega)).trans c02
  replace c03 := (hb2.cell (p := ⟨w.heap.size, 3, none⟩) (by show w.heap.size < w1.heap.size; omega)).trans c03
  replace c04 := (hb2.cell (p := ⟨w.heap.size, 4, none⟩) (by show w.heap.size < w1.heap.size; omega)).trans c04
  replace c10 := (hb2.cell (p := ⟨w.heap.size + 1, 0, none⟩) (by show w.heap.size + 1 < w1.heap.size; omega)).trans c10
  replace c11 := (hb2.cell (p := ⟨w.heap.size + 1, 1, none⟩) (by show w.heap.size + 1 < w1.heap.size; omega)).trans c11
  replace c12 := (hb2.cell (p := ⟨w.heap.size + 1, 2, none⟩) (by show w.heap.size + 1 < w1.heap.size; omega)).trans c12
  replace c13 := (hb2.cell (p := ⟨w.heap.size + 1, 3, none⟩) (by show w.heap.size + 1 < w1.heap.size; omega)).trans c13
  replace c14 := (hb2.cell (p := ⟨w.heap.size + 1, 4, none⟩) (by show w.heap.size + 1 < w1.heap.size; omega)).trans c14
  replace c20 := (hb2.cell (p := ⟨w.heap.size + 1 + 1, 0, none⟩) (by show w.heap.size + 1 + 1 < w1.heap.size; omega)).trans c20
  replace z20 := (hb2.frozen (p := ⟨w.heap.size + 1 + 1, 0, none⟩) (by show w.heap.size + 1 + 1 < w1.heap.size; omega)).trans z20
  replace c21 := (hb2.cell (p := ⟨w.heap.size + 1 + 1, 1, none⟩) (by show w.heap.size + 1 + 1 < w1.heap.size; omega)).trans c21
  replace z21 := (hb2.frozen (p := ⟨w.heap.size + 1 + 1, 1, none⟩) (by show w.heap.size + 1 + 1 < w1.heap.size; omega)).trans z21
  replace c22 := (hb2.cell (p := ⟨w.heap.size + 1 + 1, 2, none⟩) (by show w.heap.size + 1 + 1 < w1.heap.size; omega)).trans c22
  replace z22 := (hb2.frozen (p := ⟨w.heap.size + 1 + 1, 2, none⟩) (by show w.heap.size + 1 + 1 < w1.heap.size; omega)).trans z22
  replace c23 := (hb2.cell (p := ⟨w.heap.size + 1 + 1, 3, none⟩) (by show w.heap.size + 1 + 1 < w1.heap.size; omega)).trans c23
  replace z23 := (hb2.frozen (p := ⟨w.heap.size + 1 + 1, 3, none⟩) (by show w.heap.size + 1 + 1 < w1.heap.size; omega)).trans z23
  replace c24 := (hb2.cell (p := ⟨w.heap.size + 1 + 1, 4, none⟩) (by show w.heap.size + 1 + 1 < w1.heap.size; omega)).trans c24
  replace z24 := (hb2.frozen (p := ⟨w.heap.size + 1 + 1, 4, none⟩) (by show w.heap.size + 1 + 1 < w1.heap.size; omega)).trans z24
  replace c30 := (hb2.cell (p := ⟨w.heap.size + 1 + 1 + 1, 0, none⟩) (by show w.heap.size + 1 + 1 + 1 < w1.heap.size; omega)).trans c30
  replace z30 := (hb2.frozen (p := ⟨w.heap.size + 1 + 1 + 1, 0, none⟩) (by show w.heap.size + 1 + 1 + 1 < w1.heap.size; omega)).trans z30
  replace c31 := (hb2.cell (p := ⟨w.heap.size + 1 + 1 + 1, 1, none⟩) (by show w.heap.size + 1 + 1 + 1 < w1.heap.size; omega)).trans c31
  replace z31 := (hb2.frozen (p := ⟨w.heap.size + 1 + 1 + 1, 1, none⟩) (by show w.heap.size + 1 + 1 + 1 < w1.heap.size; omega)).trans z31
  replace c32 := (hb2.cell (p := ⟨w.heap.size + 1 + 1 + 1, 2, none⟩) (by show w.heap.size + 1 + 1 + 1 < w1.heap.size; omega)).trans c32
  replace z32 := (hb2.frozen (p := ⟨w.heap.size + 1 + 1 + 1, 2, none⟩) (by show w.heap.size + 1 + 1 + 1 < w1.heap.size; omega)).trans z32
  replace c33 := (hb2.cell (p := ⟨w.heap.size + 1 + 1 + 1, 3, none⟩) (by show w.heap.size + 1 + 1 + 1 < w1.heap.size; omega)).trans c33
  replace z33 := (hb2.frozen (p := ⟨w.heap.size + 1 + 1 + 1, 3, none⟩) (by show w.heap.size + 1 + 1 + 1 < w1.heap.size; omega)).trans z33
  replace c34 := (hb2.cell (p := ⟨w.heap.size + 1 + 1 + 1, 4, none⟩) (by show w.heap.size + 1 + 1 + 1 < w1.heap.size; omega)).trans c34
  replace z34 := (hb2.frozen (p := ⟨w.heap.size + 1 + 1 + 1, 4, none⟩) (by show w.heap.size + 1 + 1 + 1 < w1.heap.size; omega)).trans z34
  clear hb2 hz1
  go_wp2_with fail
  refine (unblock_eq _ _ _ _ _ _ _ _ _ _ HD _).mono ?_
  rintro e w3 ⟨rfl, hb3⟩
  have HB3 : Hid (Below w.heap.size w w3) := Lib.hid (below2S HB2.out hb3)
  have hz3 : w.heap.size + 1 + 1 + 1 + 1 ≤ w3.heap.size := Nat.le_trans hz2 hb3.size
  replace c00 := (hb3.cell (p := ⟨w.heap.size, 0, none⟩) (by show w.heap.size < w2.heap.size; omega)).trans c00
  replace c01 := (hb3.cell (p := ⟨w.heap.size, 1, none⟩) (by show w.heap.size < w2.heap.size; omega)).trans c01
  replace c02 := (hb3.cell (p := ⟨w.heap.size, 2, none⟩) (by show w.heap.size < w2.heap.size; omega)).trans c02
  replace c03 := (hb3.cell (p := ⟨w.heap.size, 3, none⟩) (by show w.heap.size < w2.heap.size; omega)).trans c03
  replace c04 := (hb3.cell (p := ⟨w.heap.size, 4, none⟩) (by show w.heap.size < w2.heap.size; omega)).trans c04
  replace c10 := (hb3.cell (p := ⟨w.heap.size + 1, 0, none⟩) (by show w.heap.size + 1 < w2.heap.size; omega)).trans c10
  replace c11 := (hb3.cell (p := ⟨w.heap.size + 1, 1, none⟩) (by show w.heap.size + 1 < w2.heap.size; omega)).trans c11
  replace c12 := (hb3.cell (p := ⟨w.heap.size + 1, 2, none⟩) (by show w.heap.size + 1 < w2.heap.size; omega)).trans c12
  replace c13 := (hb3.cell (p := ⟨w.heap.size + 1, 3, none⟩) (by show w.heap.size + 1 < w2.heap.size; omega)).trans c13
  replace c14 := (hb3.cell (p := ⟨w.heap.size + 1, 4, none⟩) (by show w.heap.size + 1 < w2.heap.size; omega)).trans c14
  replace c20 := (hb3.cell (p := ⟨w.heap.size + 1 + 1, 0, none⟩) (by show w.heap.size + 1 + 1 < w2.heap.size; omega)).trans c20
  replace z20 := (hb3.frozen (p := ⟨w.heap.size + 1 + 1, 0, none⟩) (by show w.heap.size + 1 + 1 < w2.heap.size; omega)).trans z20
  replace c21 := (hb3.cell (p := ⟨w.heap.size + 1 + 1, 1, none⟩) (by show w.heap.size + 1 + 1 < w2.heap.size; omega)).trans c21
  replace z21 := (hb3.frozen (p := ⟨w.heap.size + 1 + 1, 1, none⟩) (by show w.heap.size + 1 + 1 < w2.heap.size; omega)).trans z21
  replace c22 := (hb3.cell (p := ⟨w.heap.size + 1 + 1, 2, none⟩) (by show w.heap.size + 1 + 1 < w2.heap.size; omega)).trans c22
  replace z22 := (hb3.frozen (p := ⟨w.heap.size + 1 + 1, 2, none⟩) (by show w.heap.size + 1 + 1 < w2.heap.size; omega)).trans z22
  replace c23 := (hb3.cell (p := ⟨w.heap.size + 1 + 1, 3, none⟩) (by show w.heap.size + 1 + 1 < w2.heap.size; omega)).trans c23
  replace z23 := (hb3.frozen (p := ⟨w.heap.size + 1 + 1, 3, none⟩) (by show w.heap.size + 1 + 1 < w2.heap.size; omega)).trans z23
  replace c24 := (hb3.cell (p := ⟨w.heap.size + 1 + 1, 4, none⟩) (by show w.heap.size + 1 + 1 < w2.heap.size; omega)).trans c24
  replace z24 := (hb3.frozen (p := ⟨w.heap.size + 1 + 1, 4, none⟩) (by show w.heap.size + 1 + 1 < w2.heap.size; omega)).trans z24
  replace c30 := (hb3.cell (p := ⟨w.heap.size + 1 + 1 + 1, 0, none⟩) (by show w.heap.size + 1 + 1 + 1 < w2.heap.size; omega)).trans c30
  replace z30 := (hb3.frozen (p := ⟨w.heap.size + 1 + 1 + 1, 0, none⟩) (by show w.heap.size + 1 + 1 + 1 < w2.heap.size; omega)).trans z30
  replace c31 := (hb3.cell (p := ⟨w.heap.size + 1 + 1 + 1, 1, none⟩) (by show w.heap.size + 1 + 1 + 1 < w2.heap.size; omega)).trans c31
  replace z31 := (hb3.frozen (p := ⟨w.heap.size + 1 + 1 + 1, 1, none⟩) (by show w.heap.size + 1 + 1 + 1 < w2.heap.size; omega)).trans z31
  replace c32 := (hb3.cell (p := ⟨w.heap.size + 1 + 1 + 1, 2, none⟩) (by show w.heap.size + 1 + 1 + 1 < w2.heap.size; omega)).trans c32
  replace z32 := (hb3.frozen (p := ⟨w.heap.size + 1 + 1 + 1, 2, none⟩) (by show w.heap.size + 1 + 1 + 1 < w2.heap.size; omega)).trans z32
  replace c33 := (hb3.cell (p := ⟨w.heap.size + 1 + 1 + 1, 3, none⟩) (by show w.heap.size + 1 + 1 + 1 < w2.heap.size; omega)).trans c33
  replace z33 := (hb3.frozen (p := ⟨w.heap.size + 1 + 1 + 1, 3, none⟩) (by show w.heap.size + 1 + 1 + 1 < w2.heap.size; omega)).trans z33
  replace c34 := (hb3.cell (p := ⟨w.heap.size + 1 + 1 + 1, 4, none⟩) (by show w.heap.size + 1 + 1 + 1 < w2.heap.size; omega)).trans c34
  replace z34 := (hb3.frozen (p := ⟨w.heap.size + 1 + 1 + 1, 4, none⟩) (by show w.heap.size + 1 + 1 + 1 < w2.heap.size; omega)).trans z34
  clear hb3 hz2
  go_wp2_with fail
  have hb4 : Below w3.heap.size w3 (w3.alloc (.cells #[.bool x1, .bool x2, .bool x3, .bool x4, .bool x5, .bool y1, .bool y2, .bool y3, .bool y4, .bool y5] 90)) := (Below.refl _ _).alloc (Nat.le_refl _) _
  have HB4 : Hid (Below w.heap.size w (w3.alloc (.cells #[.bool x1, .bool x2, .bool x3, .bool x4, .bool x5, .bool y1, .bool y2, .bool y3, .bool y4, .bool y5] 90))) := Lib.hid (below2S HB3.out hb4)
  replace c00 := (hb4.cell (p := ⟨w.heap.size, 0, none⟩) (by show w.heap.size < w3.heap.size; omega)).trans c00
  replace c01 := (hb4.cell (p := ⟨w.heap.size, 1, none⟩) (by show w.heap.size < w3.heap.size; omega)).trans c01
  replace c02 := (hb4.cell (p := ⟨w.heap.size, 2, none⟩) (by show w.heap.size < w3.heap.size; omega)).trans c02
  replace c03 := (hb4.cell (p := ⟨w.heap.size, 3, none⟩) (by show w.heap.size < w3.heap.size; omega)).trans c03
  replace c04 := (hb4.cell (p := ⟨w.heap.size, 4, none⟩) (by show w.heap.size < w3.heap.size; omega)).trans c04
  replace c10 := (hb4.cell (p := ⟨w.heap.size + 1, 0, none⟩) (by show w.heap.size + 1 < w3.heap.size; omega)).trans c10
  replace c11 := (hb4.cell (p := ⟨w.heap.size + 1, 1, none⟩) (by show w.heap.size + 1 < w3.heap.size; omega)).trans c11
  replace c12 := (hb4.cell (p := ⟨w.heap.size + 1, 2, none⟩) (by show w.heap.size + 1 < w3.heap.size; omega)).trans c12
  replace c13 := (hb4.cell (p := ⟨w.heap.size + 1, 3, none⟩) (by show w.heap.size + 1 < w3.heap.size; omega)).trans c13
  replace c14 := (hb4.cell (p := ⟨w.heap.size + 1, 4, none⟩) (by show w.heap.size + 1 < w3.heap.size; omega)).trans c14
  replace c20 := (hb4.cell (p := ⟨w.heap.size + 1 + 1, 0, none⟩) (by show w.heap.size + 1 + 1 < w3.heap.size; omega)).trans c20
  replace z20 := (hb4.frozen (p := ⟨w.heap.size + 1 + 1, 0, none⟩) (by show w.heap.size + 1 + 1 < w3.heap.size; omega)).trans z20
  replace c21 := (hb4.cell (p := ⟨w.heap.size + 1 + 1, 1, none⟩) (by show w.heap.size + 1 + 1 < w3.heap.size; omega)).trans c21
  replace z21 := (hb4.frozen (p := ⟨w.heap.size + 1 + 1, 1, none⟩) (by show w.heap.size + 1 + 1 < w3.heap.size; omega)).trans z21
  replace c22 := (hb4.cell (p := ⟨w.heap.size + 1 + 1, 2, none⟩) (by show w.heap.size + 1 + 1 < w3.heap.size; omega)).trans c22
  replace z22 := (hb4.frozen (p := ⟨w.heap.size + 1 + 1, 2, none⟩) (by show w.heap.size + 1 + 1 < w3.heap.size; omega)).trans z22
  replace c23 := (hb4.cell (p := ⟨w.heap.size + 1 + 1, 3, none⟩) (by show w.heap.size + 1 + 1 < w3.heap.size; omega)).trans c23
  replace z23 := (hb4.frozen (p := ⟨w.heap.size + 1 + 1, 3, none⟩) (by show w.heap.size + 1 + 1 < w3.heap.size; omega)).trans z23
  replace c24 := (hb4.cell (p := ⟨w.heap.size + 1 + 1, 4, none⟩) (by show w.heap.size + 1 + 1 < w3.heap.size; omega)).trans c24
  replace z24 := (hb4.frozen (p := ⟨w.heap.size + 1 + 1, 4, none⟩) (by show w.heap.size + 1 + 1 < w3.heap.size; omega)).trans z24
  replace c30 := (hb4.cell (p := ⟨w.heap.size + 1 + 1 + 1, 0, none⟩) (by show w.heap.size + 1 + 1 + 1 < w3.heap.size; omega)).trans c30
  replace z30 := (hb4.frozen (p := ⟨w.heap.size + 1 + 1 + 1, 0, none⟩) (by show w.heap.size + 1 + 1 + 1 < w3.heap.size; omega)).trans z30
  replace c31 := (hb4.cell (p := ⟨w.heap.size + 1 + 1 + 1, 1, none⟩) (by show w.heap.size + 1 + 1 + 1 < w3.heap.size; omega)).trans c31
  replace z31 := (hb4.frozen (p := ⟨w.heap.size + 1 + 1 + 1, 1, none⟩) (by show w.heap.size + 1 + 1 + 1 < w3.heap.size; omega)).trans z31
  replace c32 := (hb4.cell (p := ⟨w.heap.size + 1 + 1 + 1, 2, none⟩) (by show w.heap.size + 1 + 1 + 1 < w3.heap.size; omega)).trans c32
  replace z32 := (hb4.frozen (p := ⟨w.heap.size + 1 + 1 + 1, 2, none⟩) (by show w.heap.size + 1 + 1 + 1 < w3.heap.size; omega)).trans z32
  replace c33 := (hb4.cell (p := ⟨w.heap.size + 1 + 1 + 1, 3, none⟩) (by show w.heap.size + 1 + 1 + 1 < w3.heap.size; omega)).trans c33
  replace z33 := (hb4.frozen (p := ⟨w.heap.size + 1 + 1 + 1, 3, none⟩) (by show w.heap.size + 1 + 1 + 1 < w3.heap.size; omega)).trans z33
  replace c34 := (hb4.cell (p := ⟨w.heap.size + 1 + 1 + 1, 4, none⟩) (by show w.heap.size + 1 + 1 + 1 < w3.heap.size; omega)).trans c34
  replace z34 := (hb4.frozen (p := ⟨w.heap.size + 1 + 1 + 1, 4, none⟩) (by show w.heap.size + 1 + 1 + 1 < w3.heap.size; omega)).trans z34
  go_region
  try go_wp2_with fail
  obtain ⟨r0, r1, r2, r3, r4, r5, r6, r7, r8, r9⟩ := set10_get (w3.alloc (.cells #[.bool x1, .bool x2, .bool x3, .bool x4, .bool x5, .bool y1, .bool y2, .bool y3, .bool y4, .bool y5] 90)) (w.heap.size + 1 + 1) (w.heap.size + 1 + 1 + 1) (by omega) (.bool a1) (.bool a2) (.bool a3) (.bool a4) (.bool a5) (.bool b1) (.bool b2) (.bool b3) (.bool b4) (.bool b5) _ _ _ _ _ _ _ _ _ _ c20 c21 c22 c23 c24 c30 c31 c32 c33 c34
  have hB := set10_below HB4.out (w.heap.size + 1 + 1) (w.heap.size + 1 + 1 + 1) (by omega) (by omega) (.bool a1) (.bool a2) (.bool a3) (.bool a4) (.bool a5) (.bool b1) (.bool b2) (.bool b3) (.bool b4) (.bool b5)
  show bodyPost _ _ _ _ _ (set10 (w3.alloc (.cells #[.bool x1, .bool x2, .bool x3, .bool x4, .bool x5, .bool y1, .bool y2, .bool y3, .bool y4, .bool y5] 90)) (w.heap.size + 1 + 1) (w.heap.size + 1 + 1 + 1) (.bool a1) (.bool a2) (.bool a3) (.bool a4) (.bool a5) (.bool b1) (.bool b2) (.bool b3) (.bool b4) (.bool b5)).drew
  exact bodyPost_ret (v := actE (⟨a1, a2, a3, a4, a5⟩, ⟨b1, b2, b3, b4, b5⟩, er)) (by simp [results, Try.results31, go_sem, actE, r0, r1, r2, r3, r4, r5, r6, r7, r8, r9]) rfl ⟨rfl, hB.drew⟩

set_option maxHeartbeats 3200000 in
set_option maxRecDepth 100000 in
theorem sact_ok6 (a1 a2 a3 a4 a5 b1 b2 b3 b4 b5 : Bool) {x1 x2 x3 x4 x5 y1 y2 y3 y4 y5 : Bool} (HM : Hid (suMay ⟨a1, a2, a3, a4, a5⟩ ⟨b1, b2, b3, b4, b5⟩ = true)) (HD : Hid (suDo ⟨a1, a2, a3, a4, a5⟩ ⟨b1, b2, b3, b4, b5⟩ 6 = (⟨x1, x2, x3, x4, x5⟩, ⟨y1, y2, y3, y4, y5⟩, 0))) (w : World) :
    Calls Try.prog 31 #[.agg #[.bool a1, .bool a2, .bool a3, .bool a4, .bool a5], .agg #[.bool b1, .bool b2, .bool b3, .bool b4, .bool b5], .int .i64 6] w fun e w' => e = .returned (actE (⟨x1, x2, x3, x4, x5⟩, ⟨y1, y2, y3, y4, y5⟩, 0)) ∧ Below w.heap.size w w' := by
  have B0 : Hid (Below w.heap.size w (((((w.alloc (.cells #[.bool a1, .bool a2, .bool a3, .bool a4, .bool a5] 26)).alloc (.cells #[.bool b1, .bool b2, .bool b3, .bool b4, .bool b5] 26)).alloc (.cells #[.bool false, .bool false, .bool false, .bool false, .bool false] 26)).alloc (.cells #[.bool false, .bool false, .bool false, .bool false, .bool false] 26)))) := Lib.hid (((((Below.refl _ _).alloc (Nat.le_refl _) _).alloc (by simp) _).alloc (by simp; omega) _).alloc (by simp; omega) _)
  go_enter Try.func31, Try.ntmps31
  go_wp2_with fail
  refine (kinds_any _).mono ?_
  rintro e w1 ⟨rfl, hf, hb⟩
  have hl0 := hf.look 6 (by decide)
  have hl1 : ∀ B, B = (((((w.alloc (.cells #[.bool a1, .bool a2, .bool a3, .bool a4, .bool a5] 26)).alloc (.cells #[.bool b1, .bool b2, .bool b3, .bool b4, .bool b5] 26)).alloc (.cells #[.bool false, .bool false, .bool false, .bool false, .bool false] 26)).alloc (.cells #[.bool false, .bool false, .bool false, .bool false, .bool false] 26))).heap.size → (Instr.lookup 87 (.map (some B)) (.int .i64 6) true).run Try.prog w1 = .ok (.tuple #[.func (.func 93) #[] #[], .bool true]) w1 := fun B e => by rw [e]; exact hl0
  have hl := hl1 (w.heap.size + 1 + 1 + 1 + 1) (by simp)
  clear hl0 hl1
  have HB1 : Hid (Below w.heap.size w w1) := Lib.hid (below2S B0.out hb)
  have hz1 : w.heap.size + 1 + 1 + 1 + 1 ≤ w1.heap.size := by have := hb.size; simp at this; omega
  obtain ⟨c00, c01, c02, c03, c04, c10, c11, c12, c13, c14, c20, z20, c21, z21, c22, z22, c23, z23, c24, z24, c30, z30, c31, z31, c32, z32, c33, z33, c34, z34⟩ := act_cells hb
  clear hf hb
  go_wp2_with fail
  refine (smay_eq _ _ _ _ _ _ _ _ _ _ HM _).mono ?_
  rintro e w2 ⟨rfl, rfl⟩
  obtain ⟨w2, hw2⟩ : ∃ w2, w2 = (w1.alloc (.cells #[.bool a1, .bool a2, .bool a3, .bool a4, .bool a5] 26)).alloc (.cells #[.bool b1, .bool b2, .bool b3, .bool b4, .bool b5] 26) := ⟨_, rfl⟩
  rw [← hw2]
  have hb2 : Below w1.heap.size w1 w2 := by rw [hw2]; exact ((Below.refl _ _).alloc (Nat.le_refl _) _).alloc (by simp) _
  have HB2 : Hid (Below w.heap.size w w2) := Lib.hid (below2S HB1.out hb2)
  have hz2 : w.heap.size + 1 + 1 + 1 + 1 ≤ w2.heap.size := Nat.le_trans hz1 hb2.size
  clear hw2
  replace c00 := (hb2.cell (p := ⟨w.heap.size, 0, none⟩) (by show w.heap.size < w1.heap.size; omega)).trans c00
  replace c01 := (hb2.cell (p := ⟨w.heap.size, 1, none⟩) (by show w.heap.size < w1.heap.size; omega)).trans c01
  replace c02 := (hb2.cell (p := ⟨w.heap.size, 2, none⟩) (by show w.heap.size < w1.heap.size; omega)).trans c02
  replace c03 := (hb2.cell (p := ⟨w.heap.size, 3, none⟩) (by show w.heap.size < w1.heap.size; omega)).trans c03
  replace c04 := (hb2.cell (p := ⟨w.heap.size, 4, none⟩) (by show w.heap.size < w1.heap.size; omega)).trans c04
  replace c10 := (hb2.cell (p := ⟨w.heap.size + 1, 0, none⟩) (by show w.heap.size + 1 < w1.heap.size; omega)).trans c10
  replace c11 := (hb2.cell (p := ⟨w.heap.size + 1, 1, none⟩) (by show w.heap.size + 1 < w1.heap.size; omega)).trans c11
  replace c12 := (hb2.cell (p := ⟨w.heap.size + 1, 2, none⟩) (by show w.heap.size + 1 < w1.heap.size; omega)).trans c12
  replace c13 := (hb2.cell (p := ⟨w.heap.size + 1, 3, none⟩) (by show w.heap.size + 1 < w1.heap.size; omega)).trans c13
  replace c14 := (hb2.cell (p := ⟨w.heap.size + 1, 4, none⟩) (by show w.heap.size + 1 < w1.heap.size; omega)).trans c14
  replace c20 := (hb2.cell (p := ⟨w.heap.size + 1 + 1, 0, none⟩) (by show w.heap.size + 1 + 1 < w1.heap.size; omega)).trans c20
  replace z20 := (hb2.frozen (p := ⟨w.heap.size + 1 + 1, 0, none⟩) (by show w.heap.size + 1 + 1 < w1.heap.size; omega)).trans z20
  replace c21 := (hb2.cell (p := ⟨w.heap.size + 1 + 1, 1, none⟩) (by show w.heap.size + 1 + 1 < w1.heap.size; omega)).trans c21
  replace z21 := (hb2.frozen (p := ⟨w.heap.size + 1 + 1, 1, none⟩) (by show w.heap.size + 1 + 1 < w1.heap.size; omega)).trans z21
  replace c22 := (hb2.cell (p := ⟨w.heap.size + 1 + 1, 2, none⟩) (by show w.heap.size + 1 + 1 < w1.heap.size; omega)).trans c22
  replace z22 := (hb2.frozen (p := ⟨w.heap.size + 1 + 1, 2, none⟩) (by show w.heap.size + 1 + 1 < w1.heap.size; omega)).trans z22
  replace c23 := (hb2.cell (p := ⟨w.heap.size + 1 + 1, 3, none⟩) (by show w.heap.size + 1 + 1 < w1.heap.size; omega)).trans c23
  replace z23 := (hb2.frozen (p := ⟨w.heap.size + 1 + 1, 3, none⟩) (by show w.heap.size + 1 + 1 < w1.heap.size; omega)).trans z23
  replace c24 := (hb2.cell (p := ⟨w.heap.size + 1 + 1, 4, none⟩) (by show w.heap.size + 1 + 1 < w1.heap.size; omega)).trans c24
  replace z24 := (hb2.frozen (p := ⟨w.heap.size + 1 + 1, 4, none⟩) (by show w.heap.size + 1 + 1 < w1.heap.size; omega)).trans z24
  replace c30 := (hb2.cell (p := ⟨w.heap.size + 1 + 1 + 1, 0, none⟩) (by show w.heap.size + 1 + 1 + 1 < w1.heap.size; omega)).trans c30
  replace z30 := (hb2.frozen (p := ⟨w.heap.size + 1 + 1 + 1, 0, none⟩) (by show w.heap.size + 1 + 1 + 1 < w1.heap.size; omega)).trans z30
  replace c31 := (hb2.cell (p := ⟨w.heap.size + 1 + 1 + 1, 1, none⟩) (by show w.heap.size + 1 + 1 + 1 < w1.heap.size; omega)).trans c31
  replace z31 := (hb2.frozen (p := ⟨w.heap.size + 1 + 1 + 1, 1, none⟩) (by show w.heap.size + 1 + 1 + 1 < w1.heap.size; omega)).trans z31
  replace c32 := (hb2.cell (p := ⟨w.heap.size + 1 + 1 + 1, 2, none⟩) (by show w.heap.size + 1 + 1 + 1 < w1.heap.size; omega)).trans c32
  replace z32 := (hb2.frozen (p := ⟨w.heap.size + 1 + 1 + 1, 2, none⟩) (by show w.heap.size + 1 + 1 + 1 < w1.heap.size; omega)).trans z32
  replace c33 := (hb2.cell (p := ⟨w.heap.size + 1 + 1 + 1, 3, none⟩) (by show w.heap.size + 1 + 1 + 1 < w1.heap.size; omega)).trans c33
  replace z33 := (hb2.frozen (p := ⟨w.heap.size + 1 + 1 + 1, 3, none⟩) (by show w.heap.size + 1 + 1 + 1 < w1.heap.size; omega)).trans z33
  replace c34 := (hb2.cell (p := ⟨w.heap.size + 1 + 1 + 1, 4, none⟩) (by show w.heap.size + 1 + 1 + 1 < w1.heap.size; omega)).trans c34
  replace z34 := (hb2.frozen (p := ⟨w.heap.size + 1 + 1 + 1, 4, none⟩) (by show w.heap.size + 1 + 1 + 1 < w1.heap.size; omega)).trans z34
  clear hb2 hz1
  go_wp2_with fail
  refine (unblock_eq _ _ _ _ _ _ _ _ _ _ HD _).mono ?_
  rintro e w3 ⟨rfl, hb3⟩
  have HB3 : Hid (Below w.heap.size w w3) := Lib.hid (below2S HB2.out hb3)
  have hz3 : w.heap.size + 1 + 1 + 1 + 1 ≤ w3.heap.size := Nat.le_trans hz2 hb3.size
  replace c00 := (hb3.cell (p := ⟨w.heap.size, 0, none⟩) (by show w.heap.size < w2.heap.size; omega)).trans c00
  replace c01 := (hb3.cell (p := ⟨w.heap.size, 1, none⟩) (by show w.heap.size < w2.heap.size; omega)).trans c01
  replace c02 := (hb3.cell (p := ⟨w.heap.size, 2, none⟩) (by show w.heap.size < w2.heap.size; omega)).trans c02
  replace c03 := (hb3.cell (p := ⟨w.heap.size, 3, none⟩) (by show w.heap.size < w2.heap.size; omega)).trans c03
  replace c04 := (hb3.cell (p := ⟨w.heap.size, 4, none⟩) (by show w.heap.size < w2.heap.size; omega)).trans c04
  replace c10 := (hb3.cell (p := ⟨w.heap.size + 1, 0, none⟩) (by show w.heap.size + 1 < w2.heap.size; omega)).trans c10
  replace c11 := (hb3.cell (p := ⟨w.heap.size + 1, 1, none⟩) (by show w.heap.size + 1 < w2.heap.size; omega)).trans c11
  replace c12 := (hb3.cell (p := ⟨w.heap.size + 1, 2, none⟩) (by show w.heap.size + 1 < w2.heap.size; omega)).trans c12
  replace c13 := (hb3.cell (p := ⟨w.heap.size + 1, 3, none⟩) (by show w.heap.size + 1 < w2.heap.size; omega)).trans c13
  replace c14 := (hb3.cell (p := ⟨w.heap.size + 1, 4, none⟩) (by show w.heap.size + 1 < w2.heap.size; omega)).trans c14
  replace c20 := (hb3.cell (p := ⟨w.heap.size + 1 + 1, 0, none⟩) (by show w.heap.size + 1 + 1 < w2.heap.size; omega)).trans c20
  replace z20 := (hb3.frozen (p := ⟨w.heap.size + 1 + 1, 0, none⟩) (by show w.heap.size + 1 + 1 < w2.heap.size; omega)).trans z20
  replace c21 := (hb3.cell (p := ⟨w.heap.size + 1 + 1, 1, none⟩) (by show w.heap.size + 1 + 1 < w2.heap.size; omega)).trans c21
  replace z21 := (hb3.frozen (p := ⟨w.heap.size + 1 + 1, 1, none⟩) (by show w.heap.size + 1 + 1 < w2.heap.size; omega)).trans z21
  replace c22 := (hb3.cell (p := ⟨w.heap.size + 1 + 1, 2, none⟩) (by show w.heap.size + 1 + 1 < w2.heap.size; omega)).trans c22
  replace z22 := (hb3.frozen (p := ⟨w.heap.size + 1 + 1, 2, none⟩) (by show w.heap.size + 1 + 1 < w2.heap.size; omega)).trans z22
  replace c23 := (hb3.cell (p := ⟨w.heap.size + 1 + 1, 3, none⟩) (by show w.heap.size + 1 + 1 < w2.heap.size; omega)).trans c23
  replace z23 := (hb3.frozen (p := ⟨w.heap.size + 1 + 1, 3, none⟩) (by show w.heap.size + 1 + 1 < w2.heap.size; omega)).trans z23
  replace c24 := (hb3.cell (p := ⟨w.heap.size + 1 + 1, 4, none⟩) (by show w.heap.size + 1 + 1 < w2.heap.size; omega)).trans c24
  replace z24 := (hb3.frozen (p := ⟨w.heap.size + 1 + 1, 4, none⟩) (by show w.heap.size + 1 + 1 < w2.heap.size; omega)).trans z24
  replace c30 := (hb3.cell (p := ⟨w.heap.size + 1 + 1 + 1, 0, none⟩) (by show w.heap.size + 1 + 1 + 1 < w2.heap.size; omega)).trans c30
  replace z30 := (hb3.frozen (p := ⟨w.heap.size + 1 + 1 + 1, 0, none⟩) (by show w.heap.size + 1 + 1 + 1 < w2.heap.size; omega)).trans z30
  replace c31 := (hb3.cell (p := ⟨w.heap.size + 1 + 1 + 1, 1, none⟩) (by show w.heap.size + 1 + 1 + 1 < w2.heap.size; omega)).trans c31
  replace z31 := (hb3.frozen (p := ⟨w.heap.size + 1 + 1 + 1, 1, none⟩) (by show w.heap.size + 1 + 1 + 1 < w2.heap.size; omega)).trans z31
  replace c32 := (hb3.cell (p := ⟨w.heap.size + 1 + 1 + 1, 2, none⟩) (by show w.heap.size + 1 + 1 + 1 < w2.heap.size; omega)).trans c32
  replace z32 := (hb3.frozen (p := ⟨w.heap.size + 1 + 1 + 1, 2, none⟩) (by show w.heap.size + 1 + 1 + 1 < w2.heap.size; omega)).trans z32
  replace c33 := (hb3.cell (p := ⟨w.heap.size + 1 + 1 + 1, 3, none⟩) (by show w.heap.size + 1 + 1 + 1 < w2.heap.size; omega)).trans c33
  replace z33 := (hb3.frozen (p := ⟨w.heap.size + 1 + 1 + 1, 3, none⟩) (by show w.heap.size + 1 + 1 + 1 < w2.heap.size; omega)).trans z33
  replace c34 := (hb3.cell (p := ⟨w.heap.size + 1 + 1 + 1, 4, none⟩) (by show w.heap.size + 1 + 1 + 1 < w2.heap.size; omega)).trans c34
  replace z34 := (hb3.frozen (p := ⟨w.heap.size + 1 + 1 + 1, 4, none⟩) (by show w.heap.size + 1 + 1 + 1 < w2.heap.size; omega)).trans z34
  clear hb3 hz2
  go_wp2_with fail
  have hb4 : Below w3.heap.size w3 (w3.alloc (.cells #[.bool x1, .bool x2, .bool x3, .bool x4, .bool x5, .bool y1, .bool y2, .bool y3, .bool y4, .bool y5] 90)) := (Below.refl _ _).alloc (Nat.le_refl _) _
  have HB4 : Hid (Below w.heap.size w (w3.alloc (.cells #[.bool x1, .bool x2, .bool x3, .bool x4, .bool x5, .bool y1, .bool y2, .bool y3, .bool y4, .bool y5] 90))) := Lib.hid (below2S HB3.out hb4)
  replace c00 := (hb4.cell (p := ⟨w.heap.size, 0, none⟩) (by show w.heap.size < w3.heap.size; omega)).trans c00
  replace c01 := (hb4.cell (p := ⟨w.heap.size, 1, none⟩) (by show w.heap.size < w3.heap.size; omega)).trans c01
  replace c02 := (hb4.cell (p := ⟨w.heap.size, 2, none⟩) (by show w.heap.size < w3.heap.size; omega)).trans c02
  replace c03 := (hb4.cell (p := ⟨w.heap.size, 3, none⟩) (by show w.heap.size < w3.heap.size; omega)).trans c03
  replace c04 := (hb4.cell (p := ⟨w.heap.size, 4, none⟩) (by show w.heap.size < w3.heap.size; omega)).trans c04
  replace c10 := (hb4.cell (p := ⟨w.heap.size + 1, 0, none⟩) (by show w.heap.size + 1 < w3.heap.size; omega)).trans c10
  replace c11 := (hb4.cell (p := ⟨w.heap.size + 1, 1, none⟩) (by show w.heap.size + 1 < w3.heap.size; omega)).trans c11
  replace c12 := (hb4.cell (p := ⟨w.heap.size + 1, 2, none⟩) (by show w.heap.size + 1 < w3.heap.size; omega)).trans c12
  replace c13 := (hb4.cell (p := ⟨w.heap.size + 1, 3, none⟩) (by show w.heap.size + 1 < w3.heap.size; omega)).trans c13
  replace c14 := (hb4.cell (p := ⟨w.heap.size + 1, 4, none⟩) (by show w.heap.size + 1 < w3.heap.size; omega)).trans c14
  replace c20 := (hb4.cell (p := ⟨w.heap.size + 1 + 1, 0, none⟩) (by show w.heap.size + 1 + 1 < w3.heap.size; omega)).trans c20
  replace z20 := (hb4.frozen (p := ⟨w.heap.size + 1 + 1, 0, none⟩) (by show w.heap.size + 1 + 1 < w3.heap.size; omega)).trans z20
  replace c21 := (hb4.cell (p := ⟨w.heap.size + 1 + 1, 1, none⟩) (by show w.heap.size + 1 + 1 < w3.heap.size; omega)).trans c21
  replace z21 := (hb4.frozen (p := ⟨w.heap.size + 1 + 1, 1, none⟩) (by show w.heap.size + 1 + 1 < w3.heap.size; omega)).trans z21
  replace c22 := (hb4.cell (p := ⟨w.heap.size + 1 + 1, 2, none⟩) (by show w.heap.size + 1 + 1 < w3.heap.size; omega)).trans c22
  replace z22 := (hb4.frozen (p := ⟨w.heap.size + 1 + 1, 2, none⟩) (by show w.heap.size + 1 + 1 < w3.heap.size; omega)).trans z22
  replace c23 := (hb4.cell (p := ⟨w.heap.size + 1 + 1, 3, none⟩) (by show w.heap.size + 1 + 1 < w3.heap.size; omega)).trans c23
  replace z23 := (hb4.frozen (p := ⟨w.heap.size + 1 + 1, 3, none⟩) (by show w.heap.size + 1 + 1 < w3.heap.size; omega)).trans z23
  replace c24 := (hb4.cell (p := ⟨w.heap.size + 1 + 1, 4, none⟩) (by show w.heap.size + 1 + 1 < w3.heap.size; omega)).trans c24
  replace z24 := (hb4.frozen (p := ⟨w.heap.size + 1 + 1, 4, none⟩) (by show w.heap.size + 1 + 1 < w3.heap.size; omega)).trans z24
  replace c30 := (hb4.cell (p := ⟨w.heap.size + 1 + 1 + 1, 0, none⟩) (by show w.heap.size + 1 + 1 + 1 < w3.heap.size; omega)).trans c30
  replace z30 := (hb4.frozen (p := ⟨w.heap.size + 1 + 1 + 1, 0, none⟩) (by show w.heap.size + 1 + 1 + 1 < w3.heap.size; omega)).trans z30
  replace c31 := (hb4.cell (p := ⟨w.heap.size + 1 + 1 + 1, 1, none⟩) (by show w.heap.size + 1 + 1 + 1 < w3.heap.size; omega)).trans c31
  replace z31 := (hb4.frozen (p := ⟨w.heap.size + 1 + 1 + 1, 1, none⟩) (by show w.heap.size + 1 + 1 + 1 < w3.heap.size; omega)).trans z31
  replace c32 := (hb4.cell (p := ⟨w.heap.size + 1 + 1 + 1, 2, none⟩) (by show w.heap.size + 1 + 1 + 1 < w3.heap.size; omega)).trans c32
  replace z32 := (hb4.frozen (p := ⟨w.heap.size + 1 + 1 + 1, 2, none⟩) (by show w.heap.size + 1 + 1 + 1 < w3.heap.size; omega)).trans z32
  replace c33 := (hb4.cell (p := ⟨w.heap.size + 1 + 1 + 1, 3, none⟩) (by show w.heap.size + 1 + 1 + 1 < w3.heap.size; omega)).trans c33
  replace z33 := (hb4.frozen (p := ⟨w.heap.size + 1 + 1 + 1, 3, none⟩) (by show w.heap.size + 1 + 1 + 1 < w3.heap.size; omega)).trans z33
  replace c34 := (hb4.cell (p := ⟨w.heap.size + 1 + 1 + 1, 4, none⟩) (by show w.heap.size + 1 + 1 + 1 < w3.heap.size; omega)).trans c34
  replace z34 := (hb4.frozen (p := ⟨w.heap.size + 1 + 1 + 1, 4, none⟩) (by show w.heap.size + 1 + 1 + 1 < w3.heap.size; omega)).trans z34
  go_region
  try go_wp2_with fail
  obtain ⟨r0, r1, r2, r3, r4, r5, r6, r7, r8, r9⟩ := set10_get (w3.alloc (.cells #[.bool x1, .bool x2, .bool x3, .bool x4, .bool x5, .bool y1, .bool y2, .bool y3, .bool y4, .bool y5] 90)) (w.heap.size + 1 + 1) (w.heap.size + 1 + 1 + 1) (by omega) (.bool x1) (.bool x2) (.bool x3) (.bool x4) (.bool x5) (.bool y1) (.bool y2) (.bool y3) (.bool y4) (.bool y5) _ _ _ _ _ _ _ _ _ _ c20 c21 c22 c23 c24 c30 c31 c32 c33 c34
  have hB := set10_below HB4.out (w.heap.size + 1 + 1) (w.heap.size + 1 + 1 + 1) (by omega) (by omega) (.bool x1) (.bool x2) (.bool x3) (.bool x4) (.bool x5) (.bool y1) (.bool y2) (.bool y3) (.bool y4) (.bool y5)
  show bodyPost _ _ _ _ _ (set10 (w3.alloc (.cells #[.bool x1, .bool x2, .bool x3, .bool x4, .bool x5, .bool y1, .bool y2, .bool y3, .bool y4, .bool y5] 90)) (w.heap.size + 1 + 1) (w.heap.size + 1 + 1 + 1) (.bool x1) (.bool x2) (.bool x3) (.bool x4) (.bool x5) (.bool y1) (.bool y2) (.bool y3) (.bool y4) (.bool y5)).drew
  exact bodyPost_ret (v := actE (⟨x1, x2, x3, x4, x5⟩, ⟨y1, y2, y3, y4, y5⟩, 0)) (by simp [results, Try.results31, go_sem, actE, r0, r1, r2, r3, r4, r5, r6, r7, r8, r9]) rfl ⟨rfl, hB.drew⟩

end Go.Proofs.Ytfkadkopolenbaa

end

section

/-
  THE CONTRACTS OF subs.Act AND OF THE DOCUMENT'S Act, whatever is done.
-/
namespace Go.Proofs.Ytfkadkopolenbaa
open Go.RowKit

theorem suDo_shape (a b : It) (k : Int) : ∃ x1 x2 x3 x4 x5 y1 y2 y3 y4 y5 er, suDo a b k = (⟨x1, x2, x3, x4, x5⟩, ⟨y1, y2, y3, y4, y5⟩, er) := by
  obtain ⟨⟨x1, x2, x3, x4, x5⟩, ⟨y1, y2, y3, y4, y5⟩, er⟩ := suDo a b k
  exact ⟨x1, x2, x3, x4, x5, y1, y2, y3, y4, y5, er, rfl⟩

theorem suDo_err {a b : It} {k : Int} {x y : It} {er : Nat} (hm : suMay a b = true) (h1 : 1 ≤ k) (h6 : k ≤ 6) (h : suDo a b k = (x, y, er)) (he : er ≠ 0) : x = a ∧ y = b :=
  suAct_err (k := k) (e := er) (by unfold suAct; rw [if_pos ⟨hm, h1, h6⟩]; exact h) he

theorem suAct_in {a b : It} {k : Int} (hm : suMay a b = true) (h1 : 1 ≤ k) (h6 : k ≤ 6) : suAct a b k = suDo a b k := by
  unfold suAct
  rw [if_pos ⟨hm, h1, h6⟩]

theorem suAct_low {a b : It} {k : Int} (h : k < 1 ∨ 6 < k) : suAct a b k = (a, b, 1) := by
  unfold suAct
  rw [if_neg (fun h' => by omega)]

theorem suAct_not {a b : It} {k : Int} (h : suMay a b = false) : suAct a b k = (a, b, 1) := by
  unfold suAct
  rw [if_neg (fun h' => by rw [h] at h'; simp at h')]

theorem sact_any (a1 a2 a3 a4 a5 b1 b2 b3 b4 b5 : Bool) (k : Int) (hk : (Lit.int .i64 k).wf = true) (w : World) :
    Calls Try.prog 31 #[.agg #[.bool a1, .bool a2, .bool a3, .bool a4, .bool a5], .agg #[.bool b1, .bool b2, .bool b3, .bool b4, .bool b5], .int .i64 k] w fun e w' => e = .returned (actE (suAct ⟨a1, a2, a3, a4, a5⟩ ⟨b1, b2, b3, b4, b5⟩ k)) ∧ Below w.heap.size w w' := by
  by_cases ho : k < 1 ∨ 6 < k
  · rw [suAct_low ho]
    exact sact_out a1 a2 a3 a4 a5 b1 b2 b3 b4 b5 k hk ho w
  · have hr : k = 1 ∨ k = 2 ∨ k = 3 ∨ k = 4 ∨ k = 5 ∨ k = 6 := by omega
    cases hm : suMay ⟨a1, a2, a3, a4, a5⟩ ⟨b1, b2, b3, b4, b5⟩ with
    | false =>
      rw [suAct_not hm]
      exact sact_not a1 a2 a3 a4 a5 b1 b2 b3 b4 b5 k hk (by show _ = _; rcases hr with rfl | rfl | rfl | rfl | rfl | rfl <;> rfl) hm w
    | true =>
      rw [suAct_in hm (by omega) (by omega)]
      obtain ⟨x1, x2, x3, x4, x5, y1, y2, y3, y4, y5, er, hd⟩ := suDo_shape ⟨a1, a2, a3, a4, a5⟩ ⟨b1, b2, b3, b4, b5⟩ k
      rw [hd]
      by_cases he : er = 0
      · subst he
        rcases hr with rfl | rfl | rfl | rfl | rfl | rfl
        · exact sact_ok1 a1 a2 a3 a4 a5 b1 b2 b3 b4 b5 hm hd w
        · exact sact_ok2 a1 a2 a3 a4 a5 b1 b2 b3 b4 b5 hm hd w
        · exact sact_ok3 a1 a2 a3 a4 a5 b1 b2 b3 b4 b5 hm hd w
        · exact sact_ok4 a1 a2 a3 a4 a5 b1 b2 b3 b4 b5 hm hd w
        · exact sact_ok5 a1 a2 a3 a4 a5 b1 b2 b3 b4 b5 hm hd w
        · exact sact_ok6 a1 a2 a3 a4 a5 b1 b2 b3 b4 b5 hm hd w
      · obtain ⟨e1, e2⟩ := suDo_err hm (by omega) (by omega) hd he
        rw [e1, e2]
        rcases hr with rfl | rfl | rfl | rfl | rfl | rfl
        · exact sact_err1 a1 a2 a3 a4 a5 b1 b2 b3 b4 b5 he hm hd w
        · exact sact_err2 a1 a2 a3 a4 a5 b1 b2 b3 b4 b5 he hm hd w
        · exact sact_err3 a1 a2 a3 a4 a5 b1 b2 b3 b4 b5 he hm hd w
        · exact sact_err4 a1 a2 a3 a4 a5 b1 b2 b3 b4 b5 he hm hd w
        · exact sact_err5 a1 a2 a3 a4 a5 b1 b2 b3 b4 b5 he hm hd w
        · exact sact_err6 a1 a2 a3 a4 a5 b1 b2 b3 b4 b5 he hm hd w

theorem ract_any (a1 a2 a3 a4 a5 b1 b2 b3 b4 b5 : Bool) (k : Int) (w : World) :
    Calls Try.prog 71 #[.agg #[.bool a1, .bool a2, .bool a3, .bool a4, .bool a5], .agg #[.bool b1, .bool b2, .bool b3, .bool b4, .bool b5], .int .i64 k] w fun e w' => e = .returned (actE (suAct ⟨a1, a2, a3, a4, a5⟩ ⟨b1, b2, b3, b4, b5⟩ k)) ∧ Below w.heap.size w w' := by
  cases hm : suMay ⟨a1, a2, a3, a4, a5⟩ ⟨b1, b2, b3, b4, b5⟩ with
  | false =>
    rw [suAct_not hm]
    exact ract_not a1 a2 a3 a4 a5 b1 b2 b3 b4 b5 k hm w
  | true =>
    by_cases h1 : k < 1
    · rw [suAct_low (.inl h1)]
      exact ract_low a1 a2 a3 a4 a5 b1 b2 b3 b4 b5 k hm h1 w
    · by_cases h6 : 6 < k
      · rw [suAct_low (.inr h6)]
        exact ract_high a1 a2 a3 a4 a5 b1 b2 b3 b4 b5 k hm h6 w
      · have hr : k = 1 ∨ k = 2 ∨ k = 3 ∨ k = 4 ∨ k = 5 ∨ k = 6 := by omega
        rw [suAct_in hm (by omega) (by omega)]
        rcases hr with rfl | rfl | rfl | rfl | rfl | rfl
        · exact ract_1 a1 a2 a3 a4 a5 b1 b2 b3 b4 b5 hm w
        · exact ract_2 a1 a2 a3 a4 a5 b1 b2 b3 b4 b5 hm w
        · exact ract_3 a1 a2 a3 a4 a5 b1 b2 b3 b4 b5 hm w
        · exact ract_4 a1 a2 a3 a4 a5 b1 b2 b3 b4 b5 hm w
        · exact ract_5 a1 a2 a3 a4 a5 b1 b2 b3 b4 b5 hm w
        · exact ract_6 a1 a2 a3 a4 a5 b1 b2 b3 b4 b5 hm w

/-- With the answer in letters. -/
theorem sact_eq {a b x y : It} {k : Int} (hk : (Lit.int .i64 k).wf = true) {er : Nat} (h : Hid (suAct a b k = (x, y, er))) (w : World) :
    Calls Try.prog 31 #[.agg #[.bool a.to, .bool a.fr, .bool a.out, .bool a.inn, .bool a.bl], .agg #[.bool b.to, .bool b.fr, .bool b.out, .bool b.inn, .bool b.bl], .int .i64 k] w fun e w' => e = .returned (.tuple #[.agg #[.bool x.to, .bool x.fr, .bool x.out, .bool x.inn, .bool x.bl], .agg #[.bool y.to, .bool y.fr, .bool y.out, .bool y.inn, .bool y.bl], .int .i64 er]) ∧ Below w.heap.size w w' := by
  have g := sact_any a.to a.fr a.out a.inn a.bl b.to b.fr b.out b.inn b.bl k hk w
  rw [show suAct ⟨a.to, a.fr, a.out, a.inn, a.bl⟩ ⟨b.to, b.fr, b.out, b.inn, b.bl⟩ k = (x, y, er) from h.out] at g
  exact g

theorem ract_eq {a b x y : It} {k : Int} {er : Nat} (h : Hid (suAct a b k = (x, y, er))) (w : World) :
    Calls Try.prog 71 #[.agg #[.bool a.to, .bool a.fr, .bool a.out, .bool a.inn, .bool a.bl], .agg #[.bool b.to, .bool b.fr, .bool b.out, .bool b.inn, .bool b.bl], .int .i64 k] w fun e w' => e = .returned (.tuple #[.agg #[.bool x.to, .bool x.fr, .bool x.out, .bool x.inn, .bool x.bl], .agg #[.bool y.to, .bool y.fr, .bool y.out, .bool y.inn, .bool y.bl], .int .i64 er]) ∧ Below w.heap.size w w' := by
  have g := ract_any a.to a.fr a.out a.inn a.bl b.to b.fr b.out b.inn b.bl k w
  rw [show suAct ⟨a.to, a.fr, a.out, a.inn, a.bl⟩ ⟨b.to, b.fr, b.out, b.inn, b.bl⟩ k = (x, y, er) from h.out] at g
  exact g

end Go.Proofs.Ytfkadkopolenbaa

end

section

/-
  THE CONTRACT OF live OF LAYER 7's STATEMENTS: it returns true.
-/
namespace Go.Proofs.Ytfkadkopolenbaa
open Go.RowKit

/-- An item in a block of its own. -/
def ItAt (w : World) (B : Nat) (a : It) : Prop :=
  w.cell? ⟨B, 0, none⟩ = some (.bool a.to) ∧ w.cell? ⟨B, 1, none⟩ = some (.bool a.fr) ∧ w.cell? ⟨B, 2, none⟩ = some (.bool a.out) ∧ w.cell? ⟨B, 3, none⟩ = some (.bool a.inn) ∧ w.cell? ⟨B, 4, none⟩ = some (.bool a.bl)

theorem cellLaterS {w w' : World} {a : Addr} {v : Value} (h : w.cell? a = some v) (hb : Below w.heap.size w w') : w'.cell? a = some v := by
  rw [hb.cell (World.block_lt_of_cell? _ _ h)]
  exact h

theorem ItAt.later {w w' : World} {B : Nat} {a : It} (h : ItAt w B a) (hb : Below w.heap.size w w') : ItAt w' B a :=
  ⟨cellLaterS h.1 hb, cellLaterS h.2.1 hb, cellLaterS h.2.2.1 hb, cellLaterS h.2.2.2.1 hb, cellLaterS h.2.2.2.2 hb⟩

theorem itAt_made (w : World) (a : It) (B : Nat) (hB : B = w.heap.size) : ItAt (w.alloc (.cells #[.bool a.to, .bool a.fr, .bool a.out, .bool a.inn, .bool a.bl] 26)) B a := by
  subst hB
  refine ⟨?_, ?_, ?_, ?_, ?_⟩ <;> (rw [World.cell?_alloc_at _ _ _ _ rfl]; rfl)

theorem bl_allocS {w a : World} (h : Below w.heap.size w a) (o : Obj) : Below w.heap.size w (a.alloc o) := h.alloc h.size o

/-- Two items laid in two new blocks. -/
theorem twoAt (w : World) (x y : It) (T U : TypeId) : ItAt ((w.alloc (.cells #[.bool x.to, .bool x.fr, .bool x.out, .bool x.inn, .bool x.bl] T)).alloc (.cells #[.bool y.to, .bool y.fr, .bool y.out, .bool y.inn, .bool y.bl] U)) w.heap.size x ∧
    ItAt ((w.alloc (.cells #[.bool x.to, .bool x.fr, .bool x.out, .bool x.inn, .bool x.bl] T)).alloc (.cells #[.bool y.to, .bool y.fr, .bool y.out, .bool y.inn, .bool y.bl] U)) (w.heap.size + 1) y := by
  refine ⟨⟨?_, ?_, ?_, ?_, ?_⟩, ?_, ?_, ?_, ?_, ?_⟩
  · rw [World.cell?_alloc_lt _ _ _ (by simp), World.cell?_alloc_at _ _ _ _ rfl]; rfl
  · rw [World.cell?_alloc_lt _ _ _ (by simp), World.cell?_alloc_at _ _ _ _ rfl]; rfl
  · rw [World.cell?_alloc_lt _ _ _ (by simp), World.cell?_alloc_at _ _ _ _ rfl]; rfl
  · rw [World.cell?_alloc_lt _ _ _ (by simp), World.cell?_alloc_at _ _ _ _ rfl]; rfl
  · rw [World.cell?_alloc_lt _ _ _ (by simp), World.cell?_alloc_at _ _ _ _ rfl]; rfl
  all_goals (rw [World.cell?_alloc_at _ _ _ _ (by simp)]; rfl)

theorem ssees_eq (a1 a2 a3 a4 a5 b1 b2 b3 b4 b5 : Bool) {r : Bool} (h : suSees ⟨a1, a2, a3, a4, a5⟩ ⟨b1, b2, b3, b4, b5⟩ = r) (w : World) :
    Calls Try.prog 32 #[.agg #[.bool a1, .bool a2, .bool a3, .bool a4, .bool a5], .agg #[.bool b1, .bool b2, .bool b3, .bool b4, .bool b5]] w fun e w' => e = .returned (.bool r) ∧ Below w.heap.size w w' := by
  have g := ssees_any a1 a2 a3 a4 a5 b1 b2 b3 b4 b5 w
  rw [h] at g
  exact g

theorem smay_bl (a1 a2 a3 a4 a5 b1 b2 b3 b4 b5 : Bool) {r : Bool} (h : suMay ⟨a1, a2, a3, a4, a5⟩ ⟨b1, b2, b3, b4, b5⟩ = r) (w : World) :
    Calls Try.prog 35 #[.agg #[.bool a1, .bool a2, .bool a3, .bool a4, .bool a5], .agg #[.bool b1, .bool b2, .bool b3, .bool b4, .bool b5]] w fun e w' => e = .returned (.bool r) ∧ Below w.heap.size w w' := by
  have g := smay_any a1 a2 a3 a4 a5 b1 b2 b3 b4 b5 w
  rw [h] at g
  exact g.mono fun _ _ ⟨he, hw⟩ => ⟨he, by rw [hw]; exact ((Below.refl _ _).alloc (Nat.le_refl _) _).alloc (by simp) _⟩

theorem sempty_eq (a1 a2 a3 a4 a5 : Bool) {r : Bool} (h : suEmpty ⟨a1, a2, a3, a4, a5⟩ = r) (w : World) :
    Calls Try.prog 68 #[.agg #[.bool a1, .bool a2, .bool a3, .bool a4, .bool a5]] w fun e w' => e = .returned (.bool r) ∧ Below w.heap.size w w' := by
  have g := sempty_any a1 a2 a3 a4 a5 w
  rw [h] at g
  exact g

theorem rssees_eq (a1 a2 a3 a4 a5 b1 b2 b3 b4 b5 : Bool) {r : Bool} (h : suSees ⟨a1, a2, a3, a4, a5⟩ ⟨b1, b2, b3, b4, b5⟩ = r) (w : World) :
    Calls Try.prog 61 #[.agg #[.bool a1, .bool a2, .bool a3, .bool a4, .bool a5], .agg #[.bool b1, .bool b2, .bool b3, .bool b4, .bool b5]] w fun e w' => e = .returned (.bool r) ∧ Below w.heap.size w w' := by
  have g := rssees_any a1 a2 a3 a4 a5 b1 b2 b3 b4 b5 w
  rw [h] at g
  exact g

theorem rsmay_bl (a1 a2 a3 a4 a5 b1 b2 b3 b4 b5 : Bool) {r : Bool} (h : suMay ⟨a1, a2, a3, a4, a5⟩ ⟨b1, b2, b3, b4, b5⟩ = r) (w : World) :
    Calls Try.prog 56 #[.agg #[.bool a1, .bool a2, .bool a3, .bool a4, .bool a5], .agg #[.bool b1, .bool b2, .bool b3, .bool b4, .bool b5]] w fun e w' => e = .returned (.bool r) ∧ Below w.heap.size w w' := by
  have g := rsmay_any a1 a2 a3 a4 a5 b1 b2 b3 b4 b5 w
  rw [h] at g
  exact g.mono fun _ _ ⟨he, hw⟩ => ⟨he, by rw [hw]; exact ((Below.refl _ _).alloc (Nat.le_refl _) _).alloc (by simp) _⟩

theorem rsempty_eq (a1 a2 a3 a4 a5 : Bool) {r : Bool} (h : suEmpty ⟨a1, a2, a3, a4, a5⟩ = r) (w : World) :
    Calls Try.prog 57 #[.agg #[.bool a1, .bool a2, .bool a3, .bool a4, .bool a5]] w fun e w' => e = .returned (.bool r) ∧ Below w.heap.size w w' := by
  have g := rsempty_any a1 a2 a3 a4 a5 w
  rw [h] at g
  exact g

theorem l7_0 : Hid (suAct ⟨false, false, false, false, false⟩ ⟨false, false, false, false, false⟩ 1 = (⟨false, false, true, false, false⟩, ⟨false, false, false, true, false⟩, 0)) := by show _ = _; decide
theorem l7_1 : Hid (suAct ⟨false, false, true, false, false⟩ ⟨false, false, false, true, false⟩ 1 = (⟨false, false, true, false, false⟩, ⟨false, false, false, true, false⟩, 7)) := by show _ = _; decide
theorem l7_2 : Hid (suAct ⟨false, false, false, true, false⟩ ⟨false, false, true, false, false⟩ 2 = (⟨false, true, false, false, false⟩, ⟨true, false, false, false, false⟩, 0)) := by show _ = _; decide
theorem l7_3 : Hid (suAct ⟨false, false, false, false, false⟩ ⟨false, false, false, false, false⟩ 7 = (⟨false, false, false, false, false⟩, ⟨false, false, false, false, false⟩, 1)) := by show _ = _; decide
theorem l7_4 : Hid (suAct ⟨false, true, false, false, false⟩ ⟨true, false, false, false, false⟩ 5 = (⟨false, true, false, false, true⟩, ⟨true, false, false, false, false⟩, 0)) := by show _ = _; decide

end Go.Proofs.Ytfkadkopolenbaa

end

section

/-
  LAYER 8: entries in memory; how two stand; the entry of an Owner and a Contact.
-/
namespace Go.Proofs.Ytfkadkopolenbaa
open Go.RowKit

/-- An entry by value: seven cells. -/
def entAgg (e : Ent) : Value := .agg #[.string ⟨e.o.toArray⟩, .string ⟨e.c.toArray⟩, .bool e.it.to, .bool e.it.fr, .bool e.it.out, .bool e.it.inn, .bool e.it.bl]

/-- Seven cells of a block. -/
def Cells7 (w : World) (b o : Nat) (e : Ent) : Prop :=
  w.cell? ⟨b, o, none⟩ = some (.string ⟨e.o.toArray⟩) ∧ w.cell? ⟨b, o + 1, none⟩ = some (.string ⟨e.c.toArray⟩) ∧ w.cell? ⟨b, o + 2, none⟩ = some (.bool e.it.to) ∧ w.cell? ⟨b, o + 3, none⟩ = some (.bool e.it.fr) ∧
    w.cell? ⟨b, o + 4, none⟩ = some (.bool e.it.out) ∧ w.cell? ⟨b, o + 5, none⟩ = some (.bool e.it.inn) ∧ w.cell? ⟨b, o + 6, none⟩ = some (.bool e.it.bl)

theorem Cells7.later {w w' : World} {b o : Nat} {e : Ent} (h : Cells7 w b o e) (hb : Below w.heap.size w w') : Cells7 w' b o e :=
  ⟨cellLaterS h.1 hb, cellLaterS h.2.1 hb, cellLaterS h.2.2.1 hb, cellLaterS h.2.2.2.1 hb, cellLaterS h.2.2.2.2.1 hb, cellLaterS h.2.2.2.2.2.1 hb, cellLaterS h.2.2.2.2.2.2 hb⟩

/-- A slice of entries that may be read. -/
def Ents (w : World) (v : Value) (l : List Ent) : Prop :=
  ∃ a cap, v = .slice a l.length cap ∧ l.length ≤ cap ∧ cap ≤ maxLen ∧ (a = none → cap = 0) ∧
    (l = [] ∨ ∃ b off, a = some ⟨b, off, none⟩ ∧ b < w.heap.size ∧ ∀ i, i < l.length → Cells7 w b (off + i * 7) (l.getD i Ent.zero))

theorem Ents.later {w w' : World} {v : Value} {l : List Ent} (h : Ents w v l) (hb : Below w.heap.size w w') : Ents w' v l := by
  obtain ⟨a, cap, h1, h2, h3, h4, h5⟩ := h
  refine ⟨a, cap, h1, h2, h3, h4, ?_⟩
  rcases h5 with h5 | ⟨b, off, e, hlt, hc⟩
  · exact .inl h5
  · exact .inr ⟨b, off, e, Nat.lt_of_lt_of_le hlt hb.size, fun i hi => (hc i hi).later hb⟩

theorem ents_nil (w : World) : Ents w (.slice none 0 0) [] := ⟨none, 0, rfl, by simp, by simp, fun _ => rfl, .inl rfl⟩

theorem Ents.row {w wr : World} {a : Option Addr} {n cap : Nat} {l : List Ent} (h : Ents w (.slice a n cap) l) (hb : Below w.heap.size w wr) (k : Nat) (hk : k < l.length) :
    ∃ b off, a = some ⟨b, off, none⟩ ∧ Cells7 wr b (off + k * 7) (l.getD k Ent.zero) := by
  obtain ⟨a', cap', e, _, _, _, h⟩ := h.later hb
  simp only [Value.slice.injEq] at e
  rcases h with h | ⟨b, off, e', _, hc⟩
  · rw [h] at hk; simp at hk
  · exact ⟨b, off, e.1.trans e', hc k hk⟩

theorem Ents.open' {w : World} {v : Value} {l : List Ent} (h : Ents w v l) : ∃ a cap, v = .slice a l.length cap ∧ l.length ≤ 9223372036854775807 := by
  obtain ⟨a, cap, e, h1, h2, _⟩ := h
  unfold maxLen at h2
  exact ⟨a, cap, e, by omega⟩

/-- Names that the contracts serve. -/
def ShortE (l : List Ent) : Prop := ∀ e ∈ l, e.o.length ≤ 4294967296 ∧ e.c.length ≤ 4294967296

theorem ShortE.get {l : List Ent} (h : ShortE l) {k : Nat} (hk : k < l.length) : (l.getD k Ent.zero).o.length ≤ 4294967296 ∧ (l.getD k Ent.zero).c.length ≤ 4294967296 := by
  rw [getD_at hk]
  exact h _ (List.getElem_mem hk)

/-- A number below 0, above 0, or 0. -/
def ordI (a b : List UInt8) : Int := if idLess a b = true then -1 else if idLess b a = true then 1 else 0

set_option maxHeartbeats 800000 in
set_option maxRecDepth 100000 in
theorem order_any (a b : List UInt8) (w : World) :
    Calls Try.prog 79 #[.string ⟨a.toArray⟩, .string ⟨b.toArray⟩] w fun e w' => e = .returned (.int .i64 (ordI a b)) ∧ Below w.heap.size w w' := by
  unfold ordI
  cases h1 : idLess a b with
  | true =>
    have H1 := Lib.hid h1
    clear h1
    simp only [if_true]
    go_enter Try.func79, Try.ntmps79
    go_wp2_with fail
    refine (less_eq a b H1 _).mono ?_
    rintro e w1 ⟨rfl, hb1⟩
    go_wp2_with fail
    go_ret
    exact ⟨rfl, hb1⟩
  | false =>
    have H1 := Lib.hid h1
    clear h1
    cases h2 : idLess b a with
    | true =>
      have H2 := Lib.hid h2
      clear h2
      simp only [if_true, Bool.false_eq_true, if_false]
      go_enter Try.func79, Try.ntmps79
      go_wp2_with fail
      refine (less_eq a b H1 _).mono ?_
      rintro e w1 ⟨rfl, hb1⟩
      go_wp2_with fail
      refine (less_eq b a H2 _).mono ?_
      rintro e w2 ⟨rfl, hb2⟩
      go_wp2_with fail
      go_ret
      exact ⟨rfl, below2S hb1 hb2⟩
    | false =>
      have H2 := Lib.hid h2
      clear h2
      simp only [Bool.false_eq_true, if_false]
      go_enter Try.func79, Try.ntmps79
      go_wp2_with fail
      refine (less_eq a b H1 _).mono ?_
      rintro e w1 ⟨rfl, hb1⟩
      go_wp2_with fail
      refine (less_eq b a H2 _).mono ?_
      rintro e w2 ⟨rfl, hb2⟩
      go_wp2_with fail
      go_ret
      exact ⟨rfl, below2S hb1 hb2⟩

/-- How two entries stand, as a number. -/
def entI (a b : Ent) : Int := if a.o = b.o then ordI a.c b.c else ordI a.o b.o

theorem ordI_lt (a b : List UInt8) : (ordI a b < 0) = (idLess a b = true) := by
  unfold ordI
  cases idLess a b <;> cases idLess b a <;> simp

theorem entI_lt (a b : Ent) : (entI a b < 0) = (entLt a b = true) := by
  unfold entI entLt
  by_cases h : a.o = b.o
  · rw [if_pos h, ordI_lt, h, idLess_irrefl]
    simp
  · rw [if_neg h, ordI_lt]
    simp [h]

theorem ordI_zero (a b : List UInt8) : (ordI a b = 0) = (a = b) := by
  unfold ordI
  rcases idLess_tri a b with ⟨h1, h2, h3⟩ | ⟨h1, h2, h3⟩ | ⟨h1, h2, h3⟩
  · simp [h1, h3]
  · simp [h1, h2, h3]
  · subst h3; simp [idLess_irrefl]

theorem entI_zero (a b : Ent) : (entI a b = 0) = (entIs a b = true) := by
  unfold entI entIs
  by_cases h : a.o = b.o
  · rw [if_pos h, ordI_zero]
    simp [h]
  · rw [if_neg h, ordI_zero]
    simp [h]

/-- The same with the answer in letters. -/
theorem order_eq (a b : List UInt8) {r : Int} (h : Hid (ordI a b = r)) (w : World) :
    Calls Try.prog 79 #[.string ⟨a.toArray⟩, .string ⟨b.toArray⟩] w fun e w' => e = .returned (.int .i64 r) ∧ Below w.heap.size w w' := by
  have := order_any a b w
  rwa [h.out] at this

set_option maxHeartbeats 800000 in
set_option maxRecDepth 100000 in
theorem rcompare_any (ao ac bo bc : List UInt8) (x1 x2 x3 x4 x5 y1 y2 y3 y4 y5 : Bool) (w : World) :
    Calls Try.prog 60 #[.agg #[.string ⟨ao.toArray⟩, .string ⟨ac.toArray⟩, .bool x1, .bool x2, .bool x3, .bool x4, .bool x5], .agg #[.string ⟨bo.toArray⟩, .string ⟨bc.toArray⟩, .bool y1, .bool y2, .bool y3, .bool y4, .bool y5]] w fun e w' => e = .returned (.int .i64 (entI ⟨ao, ac, ⟨x1, x2, x3, x4, x5⟩⟩ ⟨bo, bc, ⟨y1, y2, y3, y4, y5⟩⟩)) ∧ Below w.heap.size w w' := by
  have B0 : Hid (Below w.heap.size w ((w.alloc (.cells #[.string ⟨ao.toArray⟩, .string ⟨ac.toArray⟩, .bool x1, .bool x2, .bool x3, .bool x4, .bool x5] 49)).alloc (.cells #[.string ⟨bo.toArray⟩, .string ⟨bc.toArray⟩, .bool y1, .bool y2, .bool y3, .bool y4, .bool y5] 49))) := Lib.hid (((Below.refl _ _).alloc (Nat.le_refl _) _).alloc (by simp) _)
  unfold entI
  simp only
  by_cases h : ao = bo
  · subst h
    rw [if_pos rfl]
    obtain ⟨r, hr⟩ : ∃ r, ordI ac bc = r := ⟨_, rfl⟩
    rw [hr]
    have HO := Lib.hid (order_eq ac bc (Lib.hid hr))
    clear hr
    go_enter Try.func60, Try.ntmps60
    go_wp2_with fail
    refine (HO.out _).mono ?_
    rintro e w1 ⟨rfl, b⟩
    have B1 := Lib.hid (below2S B0.out b)
    clear b
    go_wp2_with fail
    go_ret
    exact ⟨rfl, B1.out⟩
  · rw [if_neg h]
    have t1 : (ao != bo) = true := by rw [bne_iff_ne]; exact h
    have t2 : (ao == bo) = false := by rw [beq_eq_false_iff_ne]; exact h
    obtain ⟨r, hr⟩ : ∃ r, ordI ao bo = r := ⟨_, rfl⟩
    rw [hr]
    have HO := Lib.hid (order_eq ao bo (Lib.hid hr))
    clear hr h
    go_enter Try.func60, Try.ntmps60
    go_wp2_with fail
    refine (HO.out _).mono ?_
    rintro e w1 ⟨rfl, b⟩
    have B1 := Lib.hid (below2S B0.out b)
    clear b
    go_wp2_with fail
    go_ret
    exact ⟨rfl, B1.out⟩

end Go.Proofs.Ytfkadkopolenbaa

end

section

/-
  ROWS OF STRUCTS, OVER ANY PROGRAM AND ANY ELEMENT OF A FEW CELLS: slices that are read, or owned, appended to, copied, cleared, grown by zero rows.
-/
namespace Go.Proofs.Ytfkadkopolenbaa
open Go.RowKit

/-- The cells of elements, one behind the other. -/
def cellsS {α : Type} (vals : α → List Value) (t : List α) : List Value := (t.map vals).flatten

/-- What is to be known of an element's type T, and of its slice's S. -/
structure RowOK {α : Type} (P : Program) (vals : α → List Value) (sz : Nat) (zero : α) (T S : TypeId) (Z : Value) (bytes : Nat) : Prop where
  len : ∀ a, (vals a).length = sz
  one : ∀ a, ∀ u ∈ vals a, u.oneCell' = true
  pos : 0 < sz
  small : sz ≤ 100
  under : P.underlying S = some (.slice T)
  info : (P.info? T).map (fun i => (i.zero, i.size, i.bytes)) = some (some Z, sz, bytes)
  zvals : Z.cells.toList = vals zero
  fits : bytes ≤ 4096

section pure
variable {α : Type} {vals : α → List Value} {sz : Nat}

theorem cellsS_nil : cellsS vals [] = [] := rfl
theorem cellsS_cons (r : α) (t : List α) : cellsS vals (r :: t) = vals r ++ cellsS vals t := rfl
theorem cellsS_append (a b : List α) : cellsS vals (a ++ b) = cellsS vals a ++ cellsS vals b := by simp [cellsS]
theorem cellsS_one (r : α) : cellsS vals [r] = vals r := by simp [cellsS]

theorem cellsS_len (hl : ∀ a, (vals a).length = sz) : ∀ t : List α, (cellsS vals t).length = t.length * sz
  | [] => by simp [cellsS]
  | r :: t => by rw [cellsS_cons, List.length_append, hl, cellsS_len hl t, List.length_cons, Nat.add_mul, Nat.one_mul, Nat.add_comm]

theorem cellsS_at (hl : ∀ a, (vals a).length = sz) (zero : α) : ∀ (t : List α) (i j : Nat), i < t.length → j < sz → (cellsS vals t)[i * sz + j]? = (vals (t.getD i zero))[j]?
  | [], i, j, h, _ => by simp at h
  | r :: t, 0, j, _, hj => by
    rw [cellsS_cons, Nat.zero_mul, Nat.zero_add, List.getElem?_append_left (by rw [hl]; exact hj)]
    rfl
  | r :: t, i + 1, j, h, hj => by
    rw [cellsS_cons, List.getElem?_append_right (by rw [hl, Nat.add_mul]; omega), hl, show (i + 1) * sz + j - sz = i * sz + j by rw [Nat.add_mul]; omega, cellsS_at hl zero t i j (by simpa using h) hj]
    rfl

theorem cellsS_single (ho : ∀ a, ∀ u ∈ vals a, u.oneCell' = true) (t : List α) : ∀ u ∈ cellsS vals t, u.oneCell' = true := by
  intro u hu
  obtain ⟨l, hl, hu⟩ := List.mem_flatten.1 hu
  obtain ⟨r, _, rfl⟩ := List.mem_map.1 hl
  exact ho r u hu

theorem cellsS_take (hl : ∀ a, (vals a).length = sz) (u : List α) (o : Nat) : (cellsS vals u).take (o * sz) = cellsS vals (u.take o) := by
  have h := cellsS_append (vals := vals) (u.take o) (u.drop o)
  rw [List.take_append_drop] at h
  rw [h]
  by_cases ho : o ≤ u.length
  · rw [List.take_left' (by rw [cellsS_len hl, List.length_take, Nat.min_eq_left ho])]
  · have e1 : u.drop o = [] := List.drop_of_length_le (by omega)
    have e2 : u.take o = u := List.take_of_length_le (by omega)
    rw [e1, e2, cellsS_nil, List.append_nil, List.take_of_length_le (by rw [cellsS_len hl]; exact Nat.mul_le_mul_right _ (by omega))]

theorem cellsS_drop (hl : ∀ a, (vals a).length = sz) (u : List α) (o : Nat) : (cellsS vals u).drop (o * sz) = cellsS vals (u.drop o) := by
  have h := cellsS_append (vals := vals) (u.take o) (u.drop o)
  rw [List.take_append_drop] at h
  by_cases ho : o ≤ u.length
  · rw [h, List.drop_left' (by rw [cellsS_len hl, List.length_take, Nat.min_eq_left ho])]
  · have e1 : u.drop o = [] := List.drop_of_length_le (by omega)
    rw [e1, cellsS_nil, List.drop_of_length_le (by rw [cellsS_len hl]; exact Nat.mul_le_mul_right _ (by omega))]

/-- 'ms' laid over 'u' from place 'o' on. -/
def layS {β : Type} (u : List β) (o : Nat) (ms : List β) : List β := u.take o ++ (ms ++ u.drop (o + ms.length))

theorem layS_len {β : Type} {u : List β} {o : Nat} {ms : List β} (h : o + ms.length ≤ u.length) : (layS u o ms).length = u.length := by
  unfold layS
  simp
  omega

theorem layS_nil {β : Type} (u : List β) (o : Nat) : layS u o [] = u := by simp [layS]

theorem layS_cons {β : Type} (u : List β) (o : Nat) (x : β) (r : List β) (h : o < u.length) : layS (u.set o x) (o + 1) r = layS u o (x :: r) := by
  unfold layS
  have h1 : (u.set o x).take (o + 1) = u.take o ++ [x] := by
    rw [List.take_set, List.set_eq_take_append_cons_drop]
    rw [if_pos (by rw [List.length_take]; omega)]
    rw [List.take_take, List.drop_of_length_le (by rw [List.length_take]; omega), show min o (o + 1) = o by omega]
  have h2 : (u.set o x).drop (o + 1 + r.length) = u.drop (o + (x :: r).length) := by
    rw [List.drop_set, if_pos (by omega)]
    congr 1
    simp only [List.length_cons]
    omega
  rw [h1, h2]
  simp

theorem layS_one {β : Type} {u : List β} {i : Nat} (hi : i < u.length) (r : β) : layS u i [r] = u.set i r := by
  unfold layS
  rw [List.set_eq_take_append_cons_drop, if_pos hi]
  rfl

theorem cellsS_lay (hl : ∀ a, (vals a).length = sz) (u : List α) (o : Nat) (ms : List α) : layS (cellsS vals u) (o * sz) (cellsS vals ms) = cellsS vals (layS u o ms) := by
  unfold layS
  rw [cellsS_append, cellsS_append, cellsS_take hl, cellsS_len hl, ← Nat.add_mul, cellsS_drop hl]

/-- One put in at i. -/
def putS {β : Type} (t : List β) (i : Nat) (r : β) : List β := t.take i ++ ([r] ++ t.drop i)

theorem putS_len {β : Type} (t : List β) (i : Nat) (r : β) : (putS t i r).length = t.length + 1 := by
  unfold putS
  rw [List.length_append, List.length_append, List.length_singleton, List.length_take, List.length_drop]
  omega

theorem layS_grow {β : Type} (z : β) {t : List β} {i : Nat} (hi : i < t.length) (r : β) :
    layS (layS (t.take i ++ List.replicate (t.length + 1 - i) z) i [r]) (i + 1) (t.drop i) = putS t i r := by
  have h1 : (t.take i).length = i := by rw [List.length_take]; omega
  have e2 : (t.take i ++ List.replicate (t.length + 1 - i) z).drop (i + 1) = List.replicate (t.length - i) z := by
    rw [List.drop_append, List.drop_of_length_le (by omega), h1, show i + 1 - i = 1 by omega, List.drop_replicate, List.nil_append]
    congr 1
    omega
  have e3 : layS (t.take i ++ List.replicate (t.length + 1 - i) z) i [r] = (t.take i ++ [r]) ++ List.replicate (t.length - i) z := by
    unfold layS
    rw [List.take_left' h1, List.length_singleton, e2]
    simp
  have h4 : (t.take i ++ [r]).length = i + 1 := by rw [List.length_append, h1]; rfl
  have h5 : ((t.take i ++ [r]) ++ List.replicate (t.length - i) z).length ≤ i + 1 + (t.drop i).length := by
    rw [List.length_append, h4, List.length_replicate, List.length_drop]
    omega
  rw [e3]
  unfold layS putS
  rw [List.take_left' h4, List.drop_of_length_le h5]
  simp

theorem layS_room (hl : ∀ a, (vals a).length = sz) {t : List α} {i : Nat} (hi : i < t.length) (r : α) (z : List Value) (hz : z.length = sz) :
    layS (layS (cellsS vals t ++ z) ((i + 1) * sz) (cellsS vals (t.drop i))) (i * sz) (cellsS vals [r]) = cellsS vals (putS t i r) := by
  have hi' : i * sz + (t.length - i) * sz = t.length * sz := by rw [← Nat.add_mul]; congr 1; omega
  have e1 : (cellsS vals t ++ z).drop ((i + 1) * sz + (cellsS vals (t.drop i)).length) = [] := by
    apply List.drop_of_length_le
    rw [List.length_append, cellsS_len hl, cellsS_len hl, List.length_drop, hz, Nat.add_mul]
    omega
  have e2 : layS (cellsS vals t ++ z) ((i + 1) * sz) (cellsS vals (t.drop i)) = (cellsS vals t ++ z).take ((i + 1) * sz) ++ cellsS vals (t.drop i) := by
    unfold layS
    rw [e1, List.append_nil]
  have hle : (i + 1) * sz ≤ t.length * sz + sz := by rw [Nat.add_mul, Nat.one_mul]; have := Nat.mul_le_mul_right sz (show i ≤ t.length by omega); omega
  have hlt : ((cellsS vals t ++ z).take ((i + 1) * sz)).length = (i + 1) * sz := by
    rw [List.length_take, List.length_append, cellsS_len hl, hz]
    omega
  have e3 : ((cellsS vals t ++ z).take ((i + 1) * sz)).take (i * sz) = cellsS vals (t.take i) := by
    rw [List.take_take, show min (i * sz) ((i + 1) * sz) = i * sz by rw [Nat.add_mul]; omega, List.take_append_of_le_length (by rw [cellsS_len hl]; exact Nat.mul_le_mul_right _ (by omega)), cellsS_take hl]
  rw [e2]
  unfold layS putS
  rw [List.take_append_of_le_length (by rw [hlt]; exact Nat.mul_le_mul_right _ (by omega)), e3, List.drop_left' (by rw [hlt, cellsS_len hl, List.length_singleton, Nat.add_mul, Nat.one_mul])]
  rw [cellsS_append, cellsS_append]

end pure

theorem own_setCellsS {e size base g n cap : Nat} : ∀ (vs : List Value) (o : Nat) (w : World) (xs : List Value), w.ownsRow base e size (.slice (some ⟨g, 0, none⟩) n cap) n xs → o + vs.length ≤ xs.length →
    (w.setCells g o vs).ownsRow base e size (.slice (some ⟨g, 0, none⟩) n cap) n (layS xs o vs)
  | [], o, w, xs, h, _ => by rw [layS_nil]; exact h
  | v :: r, o, w, xs, h, hl => by
    rw [World.setCells, ← layS_cons xs o v r (by simp at hl; omega)]
    exact own_setCellsS r (o + 1) _ _ (h.stored o v).1 (by simp at hl ⊢; omega)

theorem below_setCellsS {B g : Nat} {w0 : World} (hB : B ≤ g) : ∀ (vs : List Value) (o : Nat) (w : World), Below B w0 w → Below B w0 (w.setCells g o vs)
  | [], _, _, h => h
  | v :: r, o, w, h => by
    rw [World.setCells]
    exact below_setCellsS hB r (o + 1) _ (h.setCell hB v)

section rows
variable {α : Type} {P : Program} {vals : α → List Value} {sz : Nat} {zero : α} {T S : TypeId} {Z : Value} {bytes : Nat}

/-- A slice of the call's own. -/
def OwnS (vals : α → List Value) (sz : Nat) (T : TypeId) (w : World) (base : Nat) (v : Value) (t : List α) : Prop := w.ownsRow base T sz v t.length (cellsS vals t)

/-- Its cells, whatever they hold. -/
def OwnCS (sz : Nat) (T : TypeId) (w : World) (base g n cap : Nat) (xs : List Value) : Prop := w.ownsRow base T sz (.slice (some ⟨g, 0, none⟩) n cap) n xs

/-- The cells that a slice reads. -/
def SrcS (vals : α → List Value) (w : World) (ad : Addr) (ms : List α) : Prop := ∀ j u, (cellsS vals ms)[j]? = some u → w.cell? (ad.add j) = some u

/-- The cells of one element. -/
def CellsAt (w : World) (b o : Nat) (vs : List Value) : Prop := ∀ j u, vs[j]? = some u → w.cell? ⟨b, o + j, none⟩ = some u

theorem CellsAt.later {w w' : World} {b o : Nat} {vs : List Value} (h : CellsAt w b o vs) (hb : Below w.heap.size w w') : CellsAt w' b o vs := by
  intro j u hu
  have := h j u hu
  rw [hb.cell (World.block_lt_of_cell? w _ this)]
  exact this

/-- A slice that may be read. -/
def RdS (vals : α → List Value) (sz : Nat) (zero : α) (w : World) (v : Value) (l : List α) : Prop :=
  ∃ a cap, v = .slice a l.length cap ∧ l.length ≤ cap ∧ cap ≤ maxLen ∧ (a = none → cap = 0) ∧
    (l = [] ∨ ∃ b off, a = some ⟨b, off, none⟩ ∧ b < w.heap.size ∧ ∀ i, i < l.length → CellsAt w b (off + i * sz) (vals (l.getD i zero)))

theorem RdS.later {w w' : World} {v : Value} {l : List α} (h : RdS vals sz zero w v l) (hb : Below w.heap.size w w') : RdS vals sz zero w' v l := by
  obtain ⟨a, cap, h1, h2, h3, h4, h5⟩ := h
  refine ⟨a, cap, h1, h2, h3, h4, ?_⟩
  rcases h5 with h5 | ⟨b, off, e, hlt, hc⟩
  · exact .inl h5
  · exact .inr ⟨b, off, e, Nat.lt_of_lt_of_le hlt hb.size, fun i hi => (hc i hi).later hb⟩

theorem rdS_nil (w : World) : RdS vals sz zero w (.slice none 0 0) [] := ⟨none, 0, rfl, by simp, by simp, fun _ => rfl, .inl rfl⟩

theorem RdS.row {w wr : World} {a : Option Addr} {n cap : Nat} {l : List α} (h : RdS vals sz zero w (.slice a n cap) l) (hb : Below w.heap.size w wr) (k : Nat) (hk : k < l.length) :
    ∃ b off, a = some ⟨b, off, none⟩ ∧ CellsAt wr b (off + k * sz) (vals (l.getD k zero)) := by
  obtain ⟨a', cap', e, _, _, _, h⟩ := h.later hb
  simp only [Value.slice.injEq] at e
  rcases h with h | ⟨b, off, e', _, hc⟩
  · rw [h] at hk; simp at hk
  · exact ⟨b, off, e.1.trans e', hc k hk⟩

theorem RdS.open' {w : World} {v : Value} {l : List α} (h : RdS vals sz zero w v l) : ∃ a cap, v = .slice a l.length cap ∧ l.length ≤ 9223372036854775807 := by
  obtain ⟨a, cap, e, h1, h2, _⟩ := h
  unfold maxLen at h2
  exact ⟨a, cap, e, by omega⟩

theorem OwnS.alloc {w : World} {base : Nat} {v : Value} {t : List α} (h : OwnS vals sz T w base v t) (o : Obj) : OwnS vals sz T (w.alloc o) base v t := World.ownsRow.alloc h o

theorem OwnS.drew {w : World} {base : Nat} {v : Value} {t : List α} (h : OwnS vals sz T w base v t) : OwnS vals sz T w.drew base v t := World.ownsRow.drew h

theorem ownS_nil (w : World) (base : Nat) : OwnS vals sz T w base (.slice none 0 0) [] := World.ownsRow_nil w base _ _

theorem ownS_made (w : World) : OwnS vals sz T (w.alloc (.cells #[] T)) w.heap.size (.slice (some ⟨w.heap.size, 0, none⟩) 0 0) [] :=
  World.ownsRow_made w #[] 0 (Nat.le_refl _) (by decide) (by simp)

theorem OwnS.later {w w' : World} {base : Nat} {v : Value} {t : List α} (h : OwnS vals sz T w base v t) (hb : Below w.heap.size w w') : OwnS vals sz T w' base v t := by
  refine ⟨h.1, ?_⟩
  rcases h.2 with h' | ⟨g, cap, cur, h1, h2, h3, h4⟩
  · exact .inl h'
  · exact .inr ⟨g, cap, cur, h1, h2, by rw [hb.block g (Array.getElem?_eq_some_iff.1 h3).1]; exact h3, h4⟩

theorem ownS_low {w : World} {base base' : Nat} {v : Value} {t : List α} (h : OwnS vals sz T w base v t) (hb : base' ≤ base) : OwnS vals sz T w base' v t := by
  refine ⟨h.1, ?_⟩
  rcases h.2 with h' | ⟨g, cap, cur, h1, h2, h3⟩
  · exact .inl h'
  · exact .inr ⟨g, cap, cur, h1, by omega, h3⟩

theorem ltS {i n j sz : Nat} (hi : i < n) (hj : j < sz) : i * sz + j < n * sz := by
  have := Nat.mul_le_mul_right sz (show i + 1 ≤ n by omega)
  rw [Nat.add_mul, Nat.one_mul] at this
  omega

theorem OwnS.rd (D : RowOK P vals sz zero T S Z bytes) {w : World} {base : Nat} {v : Value} {t : List α} (h : OwnS vals sz T w base v t) : RdS vals sz zero w v t := by
  rcases h with ⟨_, ⟨rfl, h0⟩ | ⟨g, cap, cur, rfl, hb, hg, hn, hc, hsz, htk⟩⟩
  · obtain rfl : t = [] := List.length_eq_zero_iff.1 h0
    exact rdS_nil w
  · refine ⟨some ⟨g, 0, none⟩, cap, rfl, hn, hc, (fun e => by cases e), .inr ⟨g, 0, rfl, (Array.getElem?_eq_some_iff.1 hg).1, fun i hi => ?_⟩⟩
    intro j u hu
    have hj : j < sz := by have := (List.getElem?_eq_some_iff.1 hu).1; rwa [D.len] at this
    rw [Nat.zero_add, cell_of_row w g (i * sz + j) cur _ (0, 0) hg]
    have h1 : cur.toList[i * sz + j]? = (cellsS vals t)[i * sz + j]? := by
      rw [← htk, List.getElem?_take, if_pos (ltS hi hj)]
    rw [← hu, ← cellsS_at D.len zero t i j hi hj, ← h1]
    simp

theorem OwnS.head {w : World} {base g n cap : Nat} {u : List α} (h : OwnS vals sz T w base (.slice (some ⟨g, 0, none⟩) n cap) u) : n = u.length ∧ base ≤ g ∧ g < w.heap.size ∧ n ≤ cap ∧ cap ≤ maxLen ∧ ∃ cur : Array Value, w.heap[g]? = some (.cells cur T (0, 0)) ∧ cur.size = cap * sz := by
  rcases h with ⟨_, ⟨h', _⟩ | ⟨g', cap', cur, h', hb, hg, hnc, hcm, hcs, _⟩⟩
  · simp at h'
  · simp only [Value.slice.injEq, Option.some.injEq, Addr.mk.injEq, and_true] at h'
    obtain ⟨rfl, h2, rfl⟩ := h'
    exact ⟨h2, hb, (Array.getElem?_eq_some_iff.1 hg).1, by omega, hcm, cur, hg, hcs⟩

theorem OwnS.cellAt (_D : RowOK P vals sz zero T S Z bytes) {w : World} {base g n cap : Nat} {u : List α} (h : OwnS vals sz T w base (.slice (some ⟨g, 0, none⟩) n cap) u) (j : Nat) (hj : j < u.length * sz) : w.cell? ⟨g, j, none⟩ = (cellsS vals u)[j]? := by
  have hn := h.head.1
  subst hn
  exact World.ownsRow.cellAt h j hj

theorem OwnS.frozenAt {w : World} {base g n cap : Nat} {u : List α} (h : OwnS vals sz T w base (.slice (some ⟨g, 0, none⟩) n cap) u) (j : Nat) : w.frozen? ⟨g, j, none⟩ = false := by
  have hn := h.head.1
  subst hn
  exact World.ownsRow.frozenAt h j

theorem OwnS.someAt (D : RowOK P vals sz zero T S Z bytes) {w : World} {base g n cap : Nat} {u : List α} (h : OwnS vals sz T w base (.slice (some ⟨g, 0, none⟩) n cap) u) (j : Nat) (hj : j < u.length * sz) : (w.cell? ⟨g, j, none⟩).isSome = true := by
  rw [h.cellAt D j hj, List.getElem?_eq_getElem (by rw [cellsS_len D.len]; exact hj)]
  rfl

/-- What an element of the call's own slice holds, at its cells. -/
theorem OwnS.row (D : RowOK P vals sz zero T S Z bytes) {w : World} {base g n cap : Nat} {u : List α} (h : OwnS vals sz T w base (.slice (some ⟨g, 0, none⟩) n cap) u) {k : Nat} (hk : k < u.length) : CellsAt w g (k * sz) (vals (u.getD k zero)) := by
  intro j x hx
  have hj : j < sz := by have := (List.getElem?_eq_some_iff.1 hx).1; rwa [D.len] at this
  rw [h.cellAt D _ (ltS hk hj), cellsS_at D.len zero u k j hk hj, hx]

/-- Elements laid over a slice of the call's own. -/
theorem ownS_lay (D : RowOK P vals sz zero T S Z bytes) {w : World} {base g n cap : Nat} {u : List α} (h : OwnS vals sz T w base (.slice (some ⟨g, 0, none⟩) n cap) u) (o : Nat) (ms : List α) (ho : o + ms.length ≤ u.length) :
    OwnS vals sz T (w.setCells g (o * sz) (cellsS vals ms)) base (.slice (some ⟨g, 0, none⟩) n cap) (layS u o ms) := by
  have hn := h.head.1
  subst hn
  unfold OwnS at h ⊢
  rw [layS_len ho, ← cellsS_lay D.len]
  exact own_setCellsS _ _ _ _ h (by rw [cellsS_len D.len, cellsS_len D.len, ← Nat.add_mul]; exact Nat.mul_le_mul_right _ ho)

/-- One stored, whole. -/
theorem ownS_set (D : RowOK P vals sz zero T S Z bytes) {w : World} {base g n cap : Nat} {u : List α} (h : OwnS vals sz T w base (.slice (some ⟨g, 0, none⟩) n cap) u) {i : Nat} (hi : i < u.length) (r : α) :
    OwnS vals sz T (w.setCells g (i * sz) (vals r)) base (.slice (some ⟨g, 0, none⟩) n cap) (u.set i r) := by
  have := ownS_lay D h i [r] (by simp; omega)
  rwa [cellsS_one, layS_one hi] at this

theorem OwnS.src (D : RowOK P vals sz zero T S Z bytes) {w : World} {base g n cap : Nat} {u : List α} (h : OwnS vals sz T w base (.slice (some ⟨g, 0, none⟩) n cap) u) (o k : Nat) (hk : o + k ≤ u.length) : SrcS vals w ⟨g, o * sz, none⟩ ((u.drop o).take k) := by
  intro j x hx
  have hj := (List.getElem?_eq_some_iff.1 hx).1
  rw [cellsS_len D.len, List.length_take, List.length_drop] at hj
  have h1 : min k (u.length - o) * sz ≤ k * sz := Nat.mul_le_mul_right _ (Nat.min_le_left _ _)
  have h2 : o * sz + k * sz ≤ u.length * sz := by rw [← Nat.add_mul]; exact Nat.mul_le_mul_right _ hk
  rw [Addr.add_lit, h.cellAt D _ (by omega), ← hx]
  rw [← cellsS_take D.len, ← cellsS_drop D.len, List.getElem?_take, if_pos (by omega), List.getElem?_drop]

/-- The cells of a slice, at its address. -/
theorem RdS.src (D : RowOK P vals sz zero T S Z bytes) {w : World} {ad : Addr} {n cap : Nat} {t : List α} (h : RdS vals sz zero w (.slice (some ad) n cap) t) : SrcS vals w ad t := by
  obtain ⟨a', cap', e, _, _, _, h⟩ := h
  simp only [Value.slice.injEq] at e
  intro j u hu
  have hj := (List.getElem?_eq_some_iff.1 hu).1
  rw [cellsS_len D.len] at hj
  rcases h with h | ⟨b, off, e', _, hc⟩
  · rw [h] at hj; simp at hj
  · have e2 := e.1.trans e'
    injection e2 with e2
    subst e2
    have hm : j % sz < sz := Nat.mod_lt _ D.pos
    have hd : j = j / sz * sz + j % sz := by have := Nat.div_add_mod j sz; rw [Nat.mul_comm] at this; omega
    have hq : j / sz < t.length := (Nat.div_lt_iff_lt_mul D.pos).2 hj
    rw [hd, cellsS_at D.len zero t (j / sz) (j % sz) hq hm] at hu
    have := hc (j / sz) hq (j % sz) u hu
    rw [Addr.add_lit, hd, ← Nat.add_assoc]
    exact this

theorem ownS_cut (D : RowOK P vals sz zero T S Z bytes) {w : World} {base g n cap : Nat} {u : List α} (h : OwnS vals sz T w base (.slice (some ⟨g, 0, none⟩) n cap) u) {i : Nat} (hi : i ≤ u.length) : OwnS vals sz T w base (.slice (some ⟨g, 0, none⟩) i cap) (u.take i) := by
  rcases h with ⟨h1, ⟨h', _⟩ | ⟨g', cap', cur, h', hb, hg, hnc, hcm, hcs, htk⟩⟩
  · simp at h'
  · simp only [Value.slice.injEq, Option.some.injEq, Addr.mk.injEq, and_true] at h'
    obtain ⟨rfl, h2, rfl⟩ := h'
    have hl : (u.take i).length = i := by rw [List.length_take]; omega
    refine ⟨by rw [cellsS_len D.len], .inr ⟨g, cap, cur, by rw [hl], hb, hg, by omega, hcm, hcs, ?_⟩⟩
    rw [hl, ← cellsS_take D.len, ← htk, List.take_take, show min (i * sz) (u.length * sz) = i * sz from Nat.min_eq_left (Nat.mul_le_mul_right _ hi)]

/-- 'out = append(out, src...)', out nil or of the call's own, src whatever. -/
theorem wpList_append_S (D : RowOK P vals sz zero T S Z bytes) {w : World} {ops : Array Oper} {rest : List Oper} {o : Oper} {a : Act} {Q : Exit → Act → World → Prop}
    (hgd : o.guard = none) (s x : Operand) (ho : o.op = .call { callee := .builtin .append, args := #[s, x], argTypes := #[S, S] })
    (base : Nat) (v : Value) (t : List α) (hs : a.eval s = v) (hown : OwnS vals sz T w base v t)
    (ao : Option Addr) (m c : Nat) (ms : List α) (hx : a.eval x = .slice ao m c) (hm : m = ms.length) (hnone : ao = none → c = 0 ∧ ms = [])
    (hsome : ∀ ad, ao = some ad → SrcS vals w ad ms)
    (hlen : t.length + ms.length < 4294967296) (hbase : base ≤ w.heap.size)
    (h : ∀ v' w', OwnS vals sz T w' base v' (t ++ ms) → Below base w w' → wpList P ops Q rest (a.put o.dst v') w') :
    wpList P ops Q (o :: rest) a w := by
  obtain ⟨i, hi, hz, hsize, hby⟩ := info_parts D.info
  cases ao with
  | none =>
    obtain ⟨rfl, rfl⟩ := hnone rfl
    simp only [List.length_nil] at hm
    subst hm
    exact wpList_append_own_none hgd s x S ho base T i sz D.under hi v t.length (cellsS vals t) hs hown hx (h v w (by simpa using hown) (Below.refl _ _))
  | some ad =>
    subst hm
    have hzl : Z.cells.size = sz := by have := congrArg List.length D.zvals; rwa [Array.length_toList, D.len] at this
    refine wpList_append_own _ hgd s x S ho base T i _ sz bytes D.under hi hz hsize hby hzl D.pos v t.length (cellsS vals t) hs hown ad ms.length c (cellsS vals ms) hx (cellsS_len D.len ms) (hsome ad rfl) (cellsS_single D.one ms)
      (by unfold maxLen; omega) (Nat.le_trans (Nat.mul_le_mul (show t.length + ms.length ≤ 4294967296 by omega) D.fits) (by decide)) hbase ?_
    intro v' w' hown' hgrow _
    refine h v' w' ?_ ((Below.refl base w).grown hgrow hbase (fun k hk => (World.ownsRow.lt hown k hk).1))
    unfold OwnS
    rw [cellsS_append, List.length_append]
    exact hown'

/-- A new block of one element. -/
theorem srcS_new {w : World} {r : α} {cs : Array Value} (hcs : cs.toList = vals r) {e : TypeId} {B : Nat} (hB : B = w.heap.size) : ∀ ad, some (⟨B, 0, none⟩ : Addr) = some ad → SrcS vals (w.alloc (.cells cs e)) ad [r] := by
  intro ad had j u hu
  subst hB
  obtain rfl := Option.some.inj had
  rw [cellsS_one, ← hcs] at hu
  rw [Addr.add_lit, Nat.zero_add, World.cell?_alloc_at _ _ _ _ rfl, ← hu]
  simp

theorem run_copy_S (D : RowOK P vals sz zero T S Z bytes) {w : World} (base g n cap : Nat) (xs : List Value) (h : OwnCS sz T w base g n cap xs) (o dl dc : Nat) (ad : Addr) (sl sc : Nat) (ms : List α) (hn : ms.length = Nat.min sl dl) (hsrc : SrcS vals w ad ms) (ho : o + ms.length ≤ n) (ty : TypeId) :
    (Builtin.copy_ #[S, S] ty #[.slice (some ⟨g, o * sz, none⟩) dl dc, .slice (some ad) sl sc]).run P w = .ok (goInt ms.length) (w.setCells g (o * sz) (cellsS vals ms)) := by
  obtain ⟨i, hi, hz, hsize, hby⟩ := info_parts D.info
  have hl := run_loadCells_list (P := P) w ad (cellsS vals ms) hsrc
  rw [cellsS_len D.len] at hl
  have hxl : xs.length = n * sz := h.1
  have hle : o * sz + ms.length * sz ≤ n * sz := by rw [← Nat.add_mul]; exact Nat.mul_le_mul_right _ ho
  have hst := run_storeCells_cells (P := P) g (o * sz) (cellsS vals ms) 0 w (fun j hj => by
    rw [cellsS_len D.len] at hj
    rw [Nat.add_zero, World.ownsRow.cellAt h _ (by omega), List.getElem?_eq_getElem (by omega)]
    rfl) (fun j _ => World.ownsRow.frozenAt h _) (cellsS_single D.one ms)
  rw [Nat.add_zero] at hst
  simp [Builtin.copy_, run_underlying D.under, Builtin.lenOf, Builtin.firstCells, sizeOf, typeInfo, hi, hsize, ← hn, hl, hst]

/-- 'copy(dst, src)', dst within a slice of the call's own: the cells. -/
theorem wp_copy_C (D : RowOK P vals sz zero T S Z bytes) {w : World} {o : Oper} {a : Act} {K : Act → World → Prop} {Q : Exit → Act → World → Prop} (d s : Operand)
    (ho : o.op = .call { callee := .builtin .copy, args := #[d, s], argTypes := #[S, S] })
    (base g n cap : Nat) (xs : List Value) (h : OwnCS sz T w base g n cap xs) (p dl dc : Nat) (ad : Addr) (sl sc : Nat)
    (hd : a.eval d = .slice (some ⟨g, p * sz, none⟩) dl dc) (hs : a.eval s = .slice (some ad) sl sc) (ms : List α) (hn : ms.length = Nat.min sl dl) (hsrc : SrcS vals w ad ms) (hp : p + ms.length ≤ n)
    (hK : ∀ w', OwnCS sz T w' base g n cap (layS xs (p * sz) (cellsS vals ms)) → Below g w w' → (∀ x : Addr, x.block ≠ g → w'.cell? x = w.cell? x) → K (a.put o.dst (goInt ms.length)) w') : o.wp P a w K Q := by
  have hr := run_copy_S D base g n cap xs h p dl dc ad sl sc ms hn hsrc hp o.type
  have hxl : xs.length = n * sz := h.1
  unfold Oper.wp execOp
  simp only [ho, resolve, invoke, builtin, Sem.run_bind, Sem.run_pure, Result.andThen_ok, List.map_toArray, List.map_cons, List.map_nil, hd, hs, hr]
  refine hK _ (own_setCellsS _ _ _ _ h (by rw [cellsS_len D.len, hxl, ← Nat.add_mul]; exact Nat.mul_le_mul_right _ hp)) (below_setCellsS (Nat.le_refl _) _ _ _ (Below.refl _ _)) (fun x hx => ?_)
  exact World.cell?_setCells_out g _ _ _ _ (fun hb _ => absurd hb hx)

theorem wpList_copy_C (D : RowOK P vals sz zero T S Z bytes) {w : World} {ops : Array Oper} {rest : List Oper} {o : Oper} {a : Act} {Q : Exit → Act → World → Prop} (hgd : o.guard = none) (d s : Operand)
    (ho : o.op = .call { callee := .builtin .copy, args := #[d, s], argTypes := #[S, S] })
    (base g n cap : Nat) (xs : List Value) (h : OwnCS sz T w base g n cap xs) (p dl dc : Nat) (ad : Addr) (sl sc : Nat)
    (hd : a.eval d = .slice (some ⟨g, p * sz, none⟩) dl dc) (hs : a.eval s = .slice (some ad) sl sc) (ms : List α) (hn : ms.length = Nat.min sl dl) (hsrc : SrcS vals w ad ms) (hp : p + ms.length ≤ n)
    (hK : ∀ w', OwnCS sz T w' base g n cap (layS xs (p * sz) (cellsS vals ms)) → Below g w w' → (∀ x : Addr, x.block ≠ g → w'.cell? x = w.cell? x) → wpList P ops Q rest (a.put o.dst (goInt ms.length)) w') : wpList P ops Q (o :: rest) a w :=
  wpList_plain hgd fun _ hK' => wp_copy_C D d s ho base g n cap xs h p dl dc ad sl sc hd hs ms hn hsrc hp fun w' h1 h2 h3 => hK' _ _ (hK w' h1 h2 h3)

theorem step_copy_C (D : RowOK P vals sz zero T S Z bytes) {w : World} {ops : Array Oper} {o : Oper} {a : Act} {K : Act → World → Prop} {Q : Exit → Act → World → Prop} {E : Prop} (hgd : o.guard = none) (d s : Operand)
    (ho : o.op = .call { callee := .builtin .copy, args := #[d, s], argTypes := #[S, S] })
    (base g n cap : Nat) (xs : List Value) (h : OwnCS sz T w base g n cap xs) (p dl dc : Nat) (ad : Addr) (sl sc : Nat)
    (hd : a.eval d = .slice (some ⟨g, p * sz, none⟩) dl dc) (hs : a.eval s = .slice (some ad) sl sc) (ms : List α) (hn : ms.length = Nat.min sl dl) (hsrc : SrcS vals w ad ms) (hp : p + ms.length ≤ n)
    (hK : ∀ w', OwnCS sz T w' base g n cap (layS xs (p * sz) (cellsS vals ms)) → Below g w w' → (∀ x : Addr, x.block ≠ g → w'.cell? x = w.cell? x) → K (a.put o.dst (goInt ms.length)) w') :
    if Region.wanted o (yielded ops a.tmps) = true then Oper.wp P o a w K Q else E := by
  have hw : Region.wanted o (yielded ops a.tmps) = true := by simp [Region.wanted, hgd]
  rw [if_pos hw]
  exact wp_copy_C D d s ho base g n cap xs h p dl dc ad sl sc hd hs ms hn hsrc hp hK

theorem OwnCS.drew {w : World} {base g n cap : Nat} {xs : List Value} (h : OwnCS sz T w base g n cap xs) : OwnCS sz T w.drew base g n cap xs := World.ownsRow.drew h

theorem OwnS.raw {w : World} {base g n cap : Nat} {t : List α} (h : OwnS vals sz T w base (.slice (some ⟨g, 0, none⟩) n cap) t) : OwnCS sz T w base g n cap (cellsS vals t) := by
  have hn := h.head.1
  subst hn
  exact h

theorem OwnCS.rows {w : World} {base g cap n : Nat} {t : List α} (h : OwnCS sz T w base g n cap (cellsS vals t)) (hn : n = t.length) : OwnS vals sz T w base (.slice (some ⟨g, 0, none⟩) n cap) t := by
  subst hn
  exact h

/-- The row behind the last one, taken in. -/
theorem ownS_wider {w : World} {base g cap : Nat} {t : List α} (h : OwnS vals sz T w base (.slice (some ⟨g, 0, none⟩) t.length cap) t) (hc : t.length < cap) : ∃ z : List Value, z.length = sz ∧ OwnCS sz T w base g (t.length + 1) cap (cellsS vals t ++ z) := by
  rcases h with ⟨h0, ⟨h', _⟩ | ⟨g', cap', cur, h', hb, hg, hnc, hcm, hcs, htk⟩⟩
  · simp at h'
  · simp only [Value.slice.injEq, Option.some.injEq, Addr.mk.injEq, and_true, true_and] at h'
    obtain ⟨rfl, rfl⟩ := h'
    have hlen : cur.toList.length = cap * sz := by rw [Array.length_toList]; exact hcs
    have hm : t.length * sz + sz ≤ cap * sz := by have := Nat.mul_le_mul_right sz (show t.length + 1 ≤ cap by omega); rwa [Nat.add_mul, Nat.one_mul] at this
    have e : cur.toList.take ((t.length + 1) * sz) = cellsS vals t ++ (cur.toList.drop (t.length * sz)).take sz := by
      rw [← htk, show (t.length + 1) * sz = t.length * sz + sz by rw [Nat.add_mul, Nat.one_mul], List.take_add]
    refine ⟨(cur.toList.drop (t.length * sz)).take sz, by rw [List.length_take, List.length_drop, hlen]; omega, ?_, .inr ⟨g, cap, cur, rfl, hb, hg, by omega, hcm, hcs, e⟩⟩
    rw [← e, List.length_take, hlen, Nat.add_mul, Nat.one_mul]
    omega

theorem zeroS (D : RowOK P vals sz zero T S Z bytes) (n : Nat) : (Builtin.zeroCells Z.cells n).toList = cellsS vals (List.replicate n zero) := by
  have hzl : Z.cells.size = sz := by have := congrArg List.length D.zvals; rwa [Array.length_toList, D.len] at this
  apply List.ext_getElem?
  intro j
  by_cases hj : j < n * sz
  · have hm : j % sz < sz := Nat.mod_lt _ D.pos
    have hd : j = j / sz * sz + j % sz := by have := Nat.div_add_mod j sz; rw [Nat.mul_comm] at this; omega
    have hq : j / sz < n := (Nat.div_lt_iff_lt_mul D.pos).2 hj
    have h1 : (cellsS vals (List.replicate n zero))[j]? = (vals zero)[j % sz]? := by
      conv => lhs; rw [hd]
      rw [cellsS_at D.len zero _ _ _ (by rw [List.length_replicate]; exact hq) hm]
      simp [List.getD, hq]
    rw [h1, ← D.zvals]
    simp [Builtin.zeroCells, hzl, hj, hm]
  · rw [List.getElem?_eq_none (by simp [Builtin.zeroCells, hzl]; omega), List.getElem?_eq_none (by rw [cellsS_len D.len, List.length_replicate]; omega)]

/-- 'append(s[:i], make([]E, k)...)' where there is no room for k more. -/
theorem wpList_append_zero_S (D : RowOK P vals sz zero T S Z bytes) {TI : TypeId} (hI : P.underlying TI = some (.int .i64)) {w : World} {ops : Array Oper} {rest : List Oper} {o : Oper} {a : Act} {Q : Exit → Act → World → Prop} (hgd : o.guard = none) (s x : Operand)
    (ho : o.op = .call { callee := .builtin .append, args := #[s, x], argTypes := #[S, TI] })
    (base g n cap : Nat) (u : List α) (h : OwnS vals sz T w base (.slice (some ⟨g, 0, none⟩) n cap) u) (i k L : Nat) (K : Int) (hs : a.eval s = .slice (some ⟨g, 0, none⟩) i cap) (hx : a.eval x = .int .i64 K) (hKk : K = (k : Int)) (hL : L = i + k) (hi : i ≤ u.length) (h0 : 0 < k) (hno : cap < i + k) (hsm : i + k ≤ 4294967)
    (hK : ∀ w' G, OwnS vals sz T w' w.heap.size (.slice (some ⟨w.heap.size, 0, none⟩) L G) (u.take i ++ List.replicate k zero) → L ≤ G → G ≤ 9223372036854775807 → Below w.heap.size w w' → wpList P ops Q rest (a.put o.dst (.slice (some ⟨w.heap.size, 0, none⟩) L G)) w') :
    wpList P ops Q (o :: rest) a w := by
  obtain ⟨i0, hi0, hz0, hzs, hzb⟩ := info_parts D.info
  subst hKk
  subst hL
  have hzc : Z.cells.size = sz := by have := congrArg List.length D.zvals; rwa [Array.length_toList, D.len] at this
  have hold : (Builtin.firstCells i0.size i (.slice (some ⟨g, 0, none⟩) i cap)).run P w.drew = .ok (cellsS vals (u.take i)).toArray w.drew := by
    rw [hzs]
    refine run_firstCells_some w.drew sz i ⟨g, 0, none⟩ i cap (cellsS vals (u.take i)) (by rw [cellsS_len D.len, List.length_take, Nat.min_eq_left hi]) (fun j v hj => ?_)
    have := (h.src D 0 i (by omega)) j v (by simpa using hj)
    rw [Nat.zero_mul] at this
    exact this
  have hbig : (i + k) * bytes ≤ 4294967 * 4096 := Nat.mul_le_mul hsm D.fits
  have hbig2 : k * bytes ≤ 4294967 * 4096 := Nat.mul_le_mul (by omega) D.fits
  have hr := Lib.run_append_grow_zeros w S TI o.type T i0 _ .i64 .i64 D.under hI hi0 hz0 (some ⟨g, 0, none⟩) i cap (cellsS vals (u.take i)) hold k h0 (by rw [hzs]; exact D.pos) hno (by omega) (by rw [hzb]; omega) (by rw [hzb]; exact growslice_fits hno (by omega))
  have hG := grownCap_ge w (i + k) cap T
  have hGm := grownCap_le_maxLen w (i + k) cap T (by unfold maxLen; omega)
  refine Lib.wpList_append_run w hgd s x _ _ ho _ _ hs hx _ _ hr ?_
  obtain ⟨G, hG'⟩ : ∃ G, G = grownCap w (i + k) cap T := ⟨_, rfl⟩
  rw [← hG'] at hG hGm ⊢
  have hb : Below w.heap.size w (w.drew.alloc (.cells ((cellsS vals (u.take i)).toArray ++ Builtin.zeroCells Z.cells k ++ Builtin.zeroCells Z.cells (G - (i + k))) T)) := ((Below.refl _ _).drew).alloc (by simp) _
  refine hK _ G ?_ hG (by unfold maxLen at hGm; omega) hb
  have hl1 : (u.take i ++ List.replicate k zero).length = i + k := by rw [List.length_append, List.length_take, List.length_replicate]; omega
  have hzl : ∀ m, (Builtin.zeroCells Z.cells m).size = m * sz := fun m => by simp [Builtin.zeroCells, hzc]
  have hsum : i * sz + k * sz + (G - (i + k)) * sz = G * sz := by rw [← Nat.add_mul, ← Nat.add_mul]; congr 1; omega
  refine ⟨by rw [cellsS_len D.len], .inr ⟨w.heap.size, G, _, by rw [hl1], Nat.le_refl _, heap_alloc_new w.drew _, by rw [hl1]; exact hG, hGm, ?_, ?_⟩⟩
  · rw [Array.size_append, Array.size_append, hzl, hzl, List.size_toArray, cellsS_len D.len, List.length_take, Nat.min_eq_left hi]
    omega
  · have e0 : (cellsS vals (u.take i)).toArray.toList = cellsS vals (u.take i) := rfl
    rw [hl1, Array.toList_append, Array.toList_append, zeroS D, cellsS_append, e0]
    have e : (cellsS vals (u.take i)).length + (cellsS vals (List.replicate k zero)).length = (i + k) * sz := by rw [cellsS_len D.len, cellsS_len D.len, List.length_take, List.length_replicate, Nat.min_eq_left hi, Nat.add_mul]
    rw [List.take_append_of_le_length (by rw [List.length_append]; omega)]
    rw [List.take_of_length_le (by rw [List.length_append]; omega)]

theorem layS_front {β : Type} {A B : List β} {o : Nat} {ms : List β} (h : o + ms.length ≤ A.length) : layS (A ++ B) o ms = layS A o ms ++ B := by
  unfold layS
  rw [List.take_append_of_le_length (by omega), List.drop_append_of_le_length h]
  simp

theorem layS_take {β : Type} {u : List β} {o N : Nat} {ms : List β} (h : o + ms.length ≤ N) (hN : N ≤ u.length) : (layS u o ms).take N = layS (u.take N) o ms := by
  have hl : (u.take N).length = N := by rw [List.length_take]; omega
  conv => lhs; rw [← List.take_append_drop N u]
  rw [layS_front (by rw [hl]; exact h), List.take_left' (by rw [layS_len (by rw [hl]; exact h), hl])]

/-- 'append(s[:i], src...)' where what is appended lies within s. -/
theorem run_append_in_S (D : RowOK P vals sz zero T S Z bytes) {w : World} (base g n cap : Nat) (t : List α) (h : OwnS vals sz T w base (.slice (some ⟨g, 0, none⟩) n cap) t) (i m c : Nat) (ad : Addr) (ms : List α) (hm : m = ms.length) (hsrc : SrcS vals w ad ms) (hin : i + ms.length ≤ n) (ty : TypeId) :
    ∃ w', (Builtin.append_ #[S, S] ty #[.slice (some ⟨g, 0, none⟩) i cap, .slice (some ad) m c]).run P w = .ok (.slice (some ⟨g, 0, none⟩) (i + m) cap) w' ∧ OwnS vals sz T w' base (.slice (some ⟨g, 0, none⟩) n cap) (layS t i ms) ∧ w.grownBy w' (some g) := by
  obtain ⟨i0, hi0, hz, hsize, hby⟩ := info_parts D.info
  have hn := h.head.1
  subst hn
  subst hm
  rcases h with ⟨h0, ⟨h', _⟩ | ⟨g', cap', cur, h', hb, hg, hnc, hcm, hcs, htk⟩⟩
  · simp at h'
  · simp only [Value.slice.injEq, Option.some.injEq, Addr.mk.injEq, and_true, true_and] at h'
    obtain ⟨rfl, rfl⟩ := h'
    have hlm := cellsS_len D.len ms
    have hle : i * sz + ms.length * sz ≤ t.length * sz := by rw [← Nat.add_mul]; exact Nat.mul_le_mul_right _ hin
    have hle2 : t.length * sz ≤ cap * sz := Nat.mul_le_mul_right _ hnc
    have hr := run_append_room (P := P) w S ty T i0 D.under hi0 g i cap cur hg ad ms.length c (cellsS vals ms) (by rw [hlm, hsize]) hsrc (cellsS_single D.one ms) (by omega) (by rw [hsize, hlm, hcs]; omega)
    rw [hsize, hlm] at hr
    refine ⟨_, hr, ⟨by rw [cellsS_len D.len], .inr ⟨g, cap, _, by rw [layS_len hin], hb, setRow_heap w g cur _ T _ hg, by rw [layS_len hin]; exact hnc, hcm, ?_, ?_⟩⟩, ⟨rfl, rfl, rfl, by simp, fun k _ hk => setRow_other w g k _ (fun e => hk (by simp [e]))⟩⟩
    · simp only [List.size_toArray, List.length_append, List.length_take, List.length_drop, Array.length_toList, hlm, hcs]
      omega
    · rw [layS_len hin, ← cellsS_lay D.len, ← htk, ← layS_take (by rw [hlm]; exact hle) (by show _ ≤ cur.size; rw [hcs]; exact hle2)]
      unfold layS
      rw [hlm, List.append_assoc]

theorem wp_append_in_S (D : RowOK P vals sz zero T S Z bytes) {w : World} {o : Oper} {a : Act} {K : Act → World → Prop} {Q : Exit → Act → World → Prop} (s x : Operand)
    (ho : o.op = .call { callee := .builtin .append, args := #[s, x], argTypes := #[S, S] })
    (base g n cap : Nat) (t : List α) (h : OwnS vals sz T w base (.slice (some ⟨g, 0, none⟩) n cap) t) (i m c : Nat) (ad : Addr) (hs : a.eval s = .slice (some ⟨g, 0, none⟩) i cap) (hx : a.eval x = .slice (some ad) m c) (ms : List α) (hm : m = ms.length) (hsrc : SrcS vals w ad ms) (hin : i + ms.length ≤ n)
    (hK : ∀ w', OwnS vals sz T w' base (.slice (some ⟨g, 0, none⟩) n cap) (layS t i ms) → Below g w w' → (∀ x : Addr, x.block < w.heap.size → x.block ≠ g → w'.cell? x = w.cell? x) → K (a.put o.dst (.slice (some ⟨g, 0, none⟩) (i + m) cap)) w') : o.wp P a w K Q := by
  obtain ⟨w', hr, h1, h2⟩ := run_append_in_S D base g n cap t h i m c ad ms hm hsrc hin o.type
  have hgw := h.head.2.2.1
  unfold Oper.wp execOp
  simp only [ho, resolve, invoke, builtin, Sem.run_bind, Sem.run_pure, Result.andThen_ok, List.map_toArray, List.map_cons, List.map_nil, hs, hx, hr]
  refine hK _ h1 ((Below.refl g w).grown h2 (by omega) (fun k hk => by obtain rfl := Option.some.inj hk; exact Nat.le_refl _)) (fun x hl hx => World.cell?_of_block (h2.block x.block hl (fun e => hx (Option.some.inj e))))

theorem wpList_append_in_S (D : RowOK P vals sz zero T S Z bytes) {w : World} {ops : Array Oper} {rest : List Oper} {o : Oper} {a : Act} {Q : Exit → Act → World → Prop} (hgd : o.guard = none) (s x : Operand)
    (ho : o.op = .call { callee := .builtin .append, args := #[s, x], argTypes := #[S, S] })
    (base g n cap : Nat) (t : List α) (h : OwnS vals sz T w base (.slice (some ⟨g, 0, none⟩) n cap) t) (i m c : Nat) (ad : Addr) (hs : a.eval s = .slice (some ⟨g, 0, none⟩) i cap) (hx : a.eval x = .slice (some ad) m c) (ms : List α) (hm : m = ms.length) (hsrc : SrcS vals w ad ms) (hin : i + ms.length ≤ n)
    (hK : ∀ w', OwnS vals sz T w' base (.slice (some ⟨g, 0, none⟩) n cap) (layS t i ms) → Below g w w' → (∀ x : Addr, x.block < w.heap.size → x.block ≠ g → w'.cell? x = w.cell? x) → wpList P ops Q rest (a.put o.dst (.slice (some ⟨g, 0, none⟩) (i + m) cap)) w') : wpList P ops Q (o :: rest) a w :=
  wpList_plain hgd fun _ hK' => wp_append_in_S D s x ho base g n cap t h i m c ad hs hx ms hm hsrc hin fun w' h1 h2 h3 => hK' _ _ (hK w' h1 h2 h3)

theorem step_append_in_S (D : RowOK P vals sz zero T S Z bytes) {w : World} {ops : Array Oper} {o : Oper} {a : Act} {K : Act → World → Prop} {Q : Exit → Act → World → Prop} {E : Prop} (hgd : o.guard = none) (s x : Operand)
    (ho : o.op = .call { callee := .builtin .append, args := #[s, x], argTypes := #[S, S] })
    (base g n cap : Nat) (t : List α) (h : OwnS vals sz T w base (.slice (some ⟨g, 0, none⟩) n cap) t) (i m c : Nat) (ad : Addr) (hs : a.eval s = .slice (some ⟨g, 0, none⟩) i cap) (hx : a.eval x = .slice (some ad) m c) (ms : List α) (hm : m = ms.length) (hsrc : SrcS vals w ad ms) (hin : i + ms.length ≤ n)
    (hK : ∀ w', OwnS vals sz T w' base (.slice (some ⟨g, 0, none⟩) n cap) (layS t i ms) → Below g w w' → (∀ x : Addr, x.block < w.heap.size → x.block ≠ g → w'.cell? x = w.cell? x) → K (a.put o.dst (.slice (some ⟨g, 0, none⟩) (i + m) cap)) w') :
    if Region.wanted o (yielded ops a.tmps) = true then Oper.wp P o a w K Q else E := by
  have hw : Region.wanted o (yielded ops a.tmps) = true := by simp [Region.wanted, hgd]
  rw [if_pos hw]
  exact wp_append_in_S D s x ho base g n cap t h i m c ad hs hx ms hm hsrc hin hK

/-- 'clear(s[p:])' of a slice of the call's own. -/
theorem wpList_clear_S (D : RowOK P vals sz zero T S Z bytes) {w : World} {ops : Array Oper} {rest : List Oper} {o : Oper} {a : Act} {Q : Exit → Act → World → Prop} (hgd : o.guard = none) (x : Operand)
    (ho : o.op = .call { callee := .builtin .clear, args := #[x], argTypes := #[S] })
    (base g n cap : Nat) (u : List α) (h : OwnS vals sz T w base (.slice (some ⟨g, 0, none⟩) n cap) u) (p : Nat) (ad : Option Addr) (m c : Nat) (hx : a.eval x = .slice ad m c) (hpos : 0 < m → ad = some ⟨g, p * sz, none⟩) (hm : p + m = u.length)
    (hK : ∀ w', OwnS vals sz T w' base (.slice (some ⟨g, 0, none⟩) n cap) (u.take p ++ List.replicate m zero) → Below g w w' → wpList P ops Q rest (a.put o.dst (.tuple #[])) w') : wpList P ops Q (o :: rest) a w := by
  refine wpList_plain hgd fun K hK' => ?_
  rcases Nat.eq_zero_or_pos m with rfl | hp
  · have hrun : (Builtin.clear_ #[S] o.type #[.slice ad 0 c]).run P w = .ok (.tuple #[]) w := by
      cases ad <;> simp [Builtin.clear_, run_underlying D.under]
    unfold Oper.wp
    simp [execOp, ho, resolve, invoke, builtin, hx, hrun, Result.andThen]
    refine hK' _ _ (hK w ?_ (Below.refl _ _))
    rw [List.take_of_length_le (by omega)]
    simpa using h
  · obtain rfl := hpos hp
    obtain ⟨i0, hi0, hz0, hzs, hzb⟩ := info_parts D.info
    have hle : p * sz + m * sz = u.length * sz := by rw [← Nat.add_mul, hm]
    have hst := run_storeCells_cells (P := P) g (p * sz) (cellsS vals (List.replicate m zero)) 0 w (fun j hj => by
      rw [cellsS_len D.len, List.length_replicate] at hj
      exact h.someAt D _ (by omega)) (fun j _ => h.frozenAt _) (cellsS_single D.one _)
    rw [Nat.add_zero, ← zeroS D] at hst
    have hrun : (Builtin.clear_ #[S] o.type #[.slice (some ⟨g, p * sz, none⟩) m c]).run P w = .ok (.tuple #[]) (w.setCells g (p * sz) (cellsS vals (List.replicate m zero))) := by
      obtain ⟨m', rfl⟩ : ∃ m', m = m' + 1 := ⟨m - 1, by omega⟩
      rw [← zeroS D]
      simp [Builtin.clear_, run_underlying D.under, zeroValue, typeInfo, hi0, hz0, hst]
    unfold Oper.wp
    simp [execOp, ho, resolve, invoke, builtin, hx, hrun, Result.andThen]
    refine hK' _ _ (hK _ ?_ (below_setCellsS (Nat.le_refl _) _ _ _ (Below.refl _ _)))
    have := ownS_lay D h p (List.replicate m zero) (by rw [List.length_replicate]; omega)
    have e : layS u p (List.replicate m zero) = u.take p ++ List.replicate m zero := by
      unfold layS
      rw [List.length_replicate, List.drop_of_length_le (by omega), List.append_nil]
    rwa [e] at this

/-- Block B holds one element, and nothing else. -/
def LoneS (vals : α → List Value) (T : TypeId) (w : World) (B : Nat) (r : α) : Prop := ∃ cs : Array Value, cs.toList = vals r ∧ w.heap[B]? = some (.cells cs T (0, 0))

theorem LoneS.later {w w' : World} {B : Nat} {r : α} (h : LoneS vals T w B r) (hb : Below w.heap.size w w') : LoneS vals T w' B r := by
  obtain ⟨cs, h1, h2⟩ := h
  exact ⟨cs, h1, (hb.block B (Array.getElem?_eq_some_iff.1 h2).1).trans h2⟩

theorem LoneS.lt {w : World} {B : Nat} {r : α} (h : LoneS vals T w B r) : B < w.heap.size := by
  obtain ⟨cs, h1, h2⟩ := h
  exact (Array.getElem?_eq_some_iff.1 h2).1

theorem LoneS.src {w : World} {B : Nat} {r : α} (h : LoneS vals T w B r) : SrcS vals w ⟨B, 0, none⟩ [r] := by
  obtain ⟨cs, h1, h2⟩ := h
  intro j u hu
  rw [cellsS_one, ← h1] at hu
  rw [Addr.add_lit, Nat.zero_add, cell_of_row w B j _ _ (0, 0) h2, ← hu]
  simp

theorem LoneS.free {w : World} {B : Nat} {r : α} (h : LoneS vals T w B r) (j : Nat) : w.frozen? ⟨B, j, none⟩ = false := by
  obtain ⟨cs, h1, h2⟩ := h
  exact frozen_of_row w B j _ _ h2

theorem LoneS.shape (hl : ∀ a, (vals a).length = sz) {w : World} {B : Nat} {r : α} (h : LoneS vals T w B r) : w.shape? B = some (T, sz) := by
  obtain ⟨cs, h1, h2⟩ := h
  have hs : cs.size = sz := by rw [← Array.length_toList, h1, hl]
  simp only [World.shape?, h2, hs]

theorem ownS_shape {w : World} {g : Nat} {cur : Array Value} (h : w.heap[g]? = some (.cells cur T (0, 0))) : w.shape? g = some (T, cur.size) := by
  simp only [World.shape?, h]

theorem loneS_new {w : World} {r : α} {cs : Array Value} (hcs : cs.toList = vals r) {B : Nat} (hB : B = w.heap.size) : LoneS vals T (w.alloc (.cells cs T)) B r := by
  subst hB
  exact ⟨cs, hcs, heap_alloc_new w _⟩

theorem sizeS (D : RowOK P vals sz zero T S Z bytes) (w : World) : (Go.sizeOf T).run P w = .ok sz w := by
  obtain ⟨i, hi, hz, hsize, hby⟩ := info_parts D.info
  simp [sizeOf, typeInfo, hi, hsize]

theorem eqlS_nil_some (D : RowOK P vals sz zero T S Z bytes) (w : World) (x : Addr) (n c : Nat) : (binOp .eql S (.slice (some x) n c) (.slice none 0 0)).run P w = .ok (.bool false) w := by
  rw [Lib.run_eql_slice_nil w _ _ _ _ _ _ _ D.under]
  rfl

theorem eqlS_nil_nil (D : RowOK P vals sz zero T S Z bytes) (w : World) (n c : Nat) : (binOp .eql S (.slice none n c) (.slice none 0 0)).run P w = .ok (.bool true) w := by
  rw [Lib.run_eql_slice_nil w _ _ _ _ _ _ _ D.under]
  rfl

end rows

end Go.Proofs.Ytfkadkopolenbaa

end

section

/-
  SMALL WORDS ON WORLDS, for contracts over slices of structs.
-/
namespace Go.Proofs.Ytfkadkopolenbaa
open Go.RowKit

theorem below2Z {w a b : World} (h1 : Below w.heap.size w a) (h2 : Below a.heap.size a b) : Below w.heap.size w b := h1.trans (h2.mono h1.size)

theorem bl_allocZ {w a : World} (h : Below w.heap.size w a) (o : Obj) : Below w.heap.size w (a.alloc o) := h.alloc h.size o

theorem bl_newZ (w : World) (o : Obj) : Below w.heap.size w (w.alloc o) := (Below.refl _ _).alloc (Nat.le_refl _) o

theorem cellLaterZ {w w' : World} {a : Addr} {v : Value} (h : w.cell? a = some v) (hb : Below w.heap.size w w') : w'.cell? a = some v :=
  (hb.cell (World.block_lt_of_cell? w _ h)).trans h

theorem regrownZ {w w' : World} (h : ∃ p : Regrown, w' = Sort.grow (redrawn w p.d) p.os) : Below w.heap.size w w' := by
  obtain ⟨p, rfl⟩ := h
  exact below_regrown _ _ _

/-- A new block's cells. -/
theorem cellsAt_made {w : World} {cs : Array Value} {vs : List Value} (h : cs.toList = vs) (T : TypeId) {B : Nat} (hB : B = w.heap.size) : CellsAt (w.alloc (.cells cs T)) B 0 vs := by
  subst hB
  intro j u hu
  rw [Nat.zero_add, World.cell?_alloc_at _ _ _ _ rfl, ← hu, ← h]
  simp

/-- Free cells of a new block. -/
theorem freeAt_made {w : World} {cs : Array Value} (T : TypeId) : ∀ i, (w.alloc (.cells cs T)).frozen? ⟨w.heap.size, i, none⟩ = false := fun i => by simp

end Go.Proofs.Ytfkadkopolenbaa

end

section

/-
  A SLICE OF A SLICE OF STRUCTS.
-/
namespace Go.Proofs.Ytfkadkopolenbaa
open Go.RowKit

theorem run_slice_from_S {α : Type} {P : Program} {vals : α → List Value} {sz : Nat} {zero : α} {T S : TypeId} {Z : Value} {bytes : Nat} (D : RowOK P vals sz zero T S Z bytes) (w : World) (ad : Addr) (n cap l : Nat) (I : Int) (hI : I = (l : Int)) (h : l ≤ n) :
    (Instr.slice S (.slice (some ad) n cap) (some (.int .i64 I)) none none).run P w = .ok (.slice (some (if cap = l then ad else ad.add (l * sz))) (n - l) (cap - l)) w := by
  obtain ⟨i, hi, hz, hsize, hby⟩ := info_parts D.info
  subst hI
  have he : P.elem S = T := by unfold Program.elem; rw [D.under]
  rw [run_slice_l w S (some ad) n cap (by rw [he]; exact D.under) .i64 (l : Int) (by omega) (by omega), he, run_sizeOf w hi]
  simp only [Result.andThen, sliced, Int.toNat_natCast]
  have hc : P.cellsOf T = sz := by unfold Program.cellsOf; rw [hi]; exact hsize
  rw [hc]
  split <;> rfl

/-- What is left of a slice behind its first p elements. -/
theorem RdS.tail {α : Type} {vals : α → List Value} {sz : Nat} {zero : α} {w : World} {ad : Addr} {n cap : Nat} {l : List α} (h : RdS vals sz zero w (.slice (some ad) n cap) l) (_hsz : 0 < sz) (p : Nat) (hp : p ≤ l.length) :
    RdS vals sz zero w (.slice (some (if cap = p then ad else ad.add (p * sz))) (n - p) (cap - p)) (l.drop p) := by
  obtain ⟨a', cap', e, h1, h2, h3, h4⟩ := h
  simp only [Value.slice.injEq] at e
  obtain ⟨rfl, rfl, rfl⟩ := e
  refine ⟨_, _, by rw [List.length_drop], by rw [List.length_drop]; omega, by omega, fun e => by simp at e, ?_⟩
  rcases h4 with rfl | ⟨b, off, e, hlt, hc⟩
  · exact .inl (by simp)
  · by_cases hd : l.drop p = []
    · exact .inl hd
    · have hpl : p < l.length := by
        rcases Nat.lt_or_ge p l.length with hh | hh
        · exact hh
        · exact absurd (List.drop_eq_nil_of_le hh) hd
      obtain rfl : ad = ⟨b, off, none⟩ := by simpa using e
      refine .inr ⟨b, off + p * sz, ?_, hlt, fun i hi => ?_⟩
      · rw [if_neg (by omega), Addr.add_lit]
      · rw [List.length_drop] at hi
        have := hc (p + i) (by omega)
        have e2 : (l.drop p).getD i zero = l.getD (p + i) zero := by
          rw [List.getD_eq_getElem?_getD, List.getD_eq_getElem?_getD, List.getElem?_drop]
        rw [e2, show off + p * sz + i * sz = off + (p + i) * sz by rw [Nat.add_mul]; omega]
        exact this

/-- A slice that was built. -/
theorem rdS_made {α : Type} {P : Program} {vals : α → List Value} {sz : Nat} {zero : α} {T S : TypeId} {Z : Value} {bytes : Nat} (D : RowOK P vals sz zero T S Z bytes) {w : World} {cs : Array Value} {l : List α} (hcs : cs.toList = cellsS vals l) (hl : l.length ≤ 1000) {B : Nat} (hB : B = w.heap.size) :
    RdS vals sz zero (w.alloc (.cells cs T)) (.slice (some ⟨B, 0, none⟩) l.length l.length) l := by
  subst hB
  refine ⟨_, _, rfl, Nat.le_refl _, by unfold maxLen; omega, (fun e => by cases e), .inr ⟨w.heap.size, 0, rfl, by simp, fun i hi j u hu => ?_⟩⟩
  have hj : j < sz := by have := (List.getElem?_eq_some_iff.1 hu).1; rwa [D.len] at this
  have := cellsAt_made (w := w) (cs := cs) (vs := cellsS vals l) hcs T rfl (i * sz + j) u (by rw [cellsS_at D.len zero l i j hi hj]; exact hu)
  rwa [Nat.zero_add] at this ⊢

end Go.Proofs.Ytfkadkopolenbaa

end

section

/-
  LAYER 8: entries as rows of seven cells.
-/
namespace Go.Proofs.Ytfkadkopolenbaa
open Go.RowKit

def entVals (e : Ent) : List Value := [.string ⟨e.o.toArray⟩, .string ⟨e.c.toArray⟩, .bool e.it.to, .bool e.it.fr, .bool e.it.out, .bool e.it.inn, .bool e.it.bl]

theorem entOK : RowOK Try.prog entVals 7 Ent.zero 49 22 (.agg #[.string ⟨#[]⟩, .string ⟨#[]⟩, .bool false, .bool false, .bool false, .bool false, .bool false]) 40 where
  len _ := rfl
  one a u hu := by
    simp only [entVals, List.mem_cons, List.not_mem_nil, or_false] at hu
    rcases hu with rfl | rfl | rfl | rfl | rfl | rfl | rfl <;> rfl
  pos := by decide
  small := by decide
  under := Try.underlying22
  info := by kernel_rfl
  zvals := rfl
  fits := by decide

theorem cells7_at {w : World} {b o : Nat} {e : Ent} : Cells7 w b o e ↔ CellsAt w b o (entVals e) := by
  constructor
  · rintro ⟨h0, h1, h2, h3, h4, h5, h6⟩ j u hu
    match j, hu with
    | 0, hu => cases hu; exact h0
    | 1, hu => cases hu; exact h1
    | 2, hu => cases hu; exact h2
    | 3, hu => cases hu; exact h3
    | 4, hu => cases hu; exact h4
    | 5, hu => cases hu; exact h5
    | 6, hu => cases hu; exact h6
    | n + 7, hu => simp [entVals] at hu
  · intro h
    exact ⟨h 0 _ rfl, h 1 _ rfl, h 2 _ rfl, h 3 _ rfl, h 4 _ rfl, h 5 _ rfl, h 6 _ rfl⟩

end Go.Proofs.Ytfkadkopolenbaa

end
