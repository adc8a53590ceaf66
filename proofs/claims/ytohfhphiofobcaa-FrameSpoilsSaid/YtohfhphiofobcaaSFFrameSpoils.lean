/-
  THE PROOF OF FrameSpoils: for every input the law returns true, and each argument reads behind the call as it read before. No condition.
-/
import Derived.Test.YtohfhphiofobcaaS18
import Derived.Test.YtohfhphiofobcaaS24
import Derived.Test.YtohfhphiofobcaaS21
import Derived.Test.YtohfhphiofobcaaS25
import Derived.Test.YtohfhphiofobcaaS02
import Derived.OpenShut
import Derived.Test.YtohfhphiofobcaaS08
import Derived.Test.YtohfhphiofobcaaRows
import Derived.ProofKit
import Derived.ShutString
import Derived.ChangeOld
import Derived.SliceStrings
import Derived.Lib.SmallJoins

section

/-
  THE WALK OF FrameSpoils.
-/
namespace Go.Proofs.Ytohfhphiofobcaa
open Go.RowKit

/-- Bytes that are only read. -/
def BytesAtF (w : World) (M : Nat) (ms : List UInt8) : Prop := ∀ j, j < ms.length → w.cell? ⟨M, j, none⟩ = some (.int .u8 (ms.getD j 0).toNat)

theorem BytesAtF.set {w : World} {M B : Nat} {ms : List UInt8} (h : BytesAtF w M ms) (hMB : ¬ M = B) (j : Nat) (v : Value) : BytesAtF (w.setCell ⟨B, j, none⟩ v) M ms := by
  intro i hi
  rw [World.cell?_setCell_other _ _ _ _ (by simp), h i hi]

theorem spoil_dec {s u : List UInt8} {place i V : Nat} (h : SpoilAt (cseal s) place i u V) (hi : i ≤ 4) (hV : V ≠ 0) : frDec u = (⟨0, 0, false, [], ⟨0, 0, 0, []⟩, 0, []⟩, 4) := by
  unfold frDec
  rw [(spoil_end h hi).2 hV, if_pos (by decide)]
  rfl

set_option maxHeartbeats 3200000 in
set_option maxRecDepth 100000 in
theorem fws_1 {w : World} {v1 : Value} {k1 q1 sh1 pr1 si1 : Int} {on1 : Bool} {c1 st1 : List UInt8} {sum1 : Nat} {tt1 : List Row} (hv1 : Tab w v1 tt1) (p : Int) (m0 m1 m2 m3 : UInt8) (hc1 : c1.length ≤ maxLen) (hs1 : st1.length ≤ maxLen) (HF1 : Hid (fewF ⟨k1, q1, on1, c1, ⟨sh1, pr1, si1, st1⟩, sum1, tt1⟩ = false)) :
    Calls Try.prog 6 #[.agg #[.int .i64 k1, .int .i64 q1, .bool on1, .string ⟨c1.toArray⟩, .int .i64 sh1, .int .i64 pr1, .int .i64 si1, .string ⟨st1.toArray⟩, .int .u64 sum1, v1], .int .i64 p, .agg #[.int .u8 m0.toNat, .int .u8 m1.toNat, .int .u8 m2.toNat, .int .u8 m3.toNat]] w fun e w' => e = .returned (.bool true) ∧ Below w.heap.size w w' := by
  obtain ⟨va, ca, rfl, -⟩ := hv1.open'
  have b0 := bl_newZ w (.cells #[.int .i64 k1, .int .i64 q1, .bool on1, .string ⟨c1.toArray⟩, .int .i64 sh1, .int .i64 pr1, .int .i64 si1, .string ⟨st1.toArray⟩, .int .u64 sum1, .slice va tt1.length ca] 27)
  have b1 := bl_newZ (w.alloc (.cells #[.int .i64 k1, .int .i64 q1, .bool on1, .string ⟨c1.toArray⟩, .int .i64 sh1, .int .i64 pr1, .int .i64 si1, .string ⟨st1.toArray⟩, .int .u64 sum1, .slice va tt1.length ca] 27)) (.cells #[.int .u8 m0.toNat, .int .u8 m1.toNat, .int .u8 m2.toNat, .int .u8 m3.toNat] 39)
  have HB := Lib.hid (below2Z b0 b1)
  have VA := Lib.hid ((hv1.later b0).later b1)
  have FA := newQ w (.cells #[.int .i64 k1, .int .i64 q1, .bool on1, .string ⟨c1.toArray⟩, .int .i64 sh1, .int .i64 pr1, .int .i64 si1, .string ⟨st1.toArray⟩, .int .u64 sum1, .slice va tt1.length ca] 27)
  replace FA := upQ FA b1
  replace FA := Lib.hid FA
  have M := newQ (w.alloc (.cells #[.int .i64 k1, .int .i64 q1, .bool on1, .string ⟨c1.toArray⟩, .int .i64 sh1, .int .i64 pr1, .int .i64 si1, .string ⟨st1.toArray⟩, .int .u64 sum1, .slice va tt1.length ca] 27)) (.cells #[.int .u8 m0.toNat, .int .u8 m1.toNat, .int .u8 m2.toNat, .int .u8 m3.toNat] 39)
  rw [World.size_alloc] at M
  replace M := Lib.hid M
  clear b0 b1
  clear hv1
  go_enter Try.func6, Try.ntmps6
  obtain ⟨⟨FAc0, FAc1, FAc2, FAc3, FAc4, FAc5, FAc6, FAc7, FAc8, FAc9⟩, ⟨FAf0, FAf1, FAf2, FAf3, FAf4, FAf5, FAf6, FAf7, FAf8, FAf9⟩⟩ := blk10 FA.out
  go_wp2_with fail
  clear FAc0 FAc1 FAc2 FAc3 FAc4 FAc5 FAc6 FAc7 FAc8 FAc9 FAf0 FAf1 FAf2 FAf3 FAf4 FAf5 FAf6 FAf7 FAf8 FAf9
  refine (fewf_eq VA.out k1 q1 on1 c1 sh1 pr1 si1 st1 sum1 hc1 hs1 HF1).mono ?_
  rintro e w3 ⟨rfl, b3⟩
  replace FA := Lib.hid (upQ FA.out b3)
  replace M := Lib.hid (upQ M.out b3)
  replace VA := Lib.hid (VA.out.later b3)
  replace HB := Lib.hid (below2Z HB.out b3)
  clear b3
  go_wp2_with fail
  refine (live6 _).mono ?_
  rintro e w4 ⟨rfl, b4⟩
  replace FA := Lib.hid (upQ FA.out b4)
  replace M := Lib.hid (upQ M.out b4)
  replace VA := Lib.hid (VA.out.later b4)
  replace HB := Lib.hid (below2Z HB.out b4)
  clear b4
  go_wp2_with fail
  go_ret
  exact ⟨rfl, HB.out⟩

set_option maxHeartbeats 3200000 in
set_option maxRecDepth 100000 in
theorem fws_2 {w : World} {v1 : Value} {k1 q1 sh1 pr1 si1 : Int} {on1 : Bool} {c1 st1 : List UInt8} {sum1 : Nat} {tt1 : List Row} (hv1 : Tab w v1 tt1) (p : Int) (m0 m1 m2 m3 : UInt8) (hc1 : c1.length ≤ maxLen) (hs1 : st1.length ≤ maxLen) (hu1 : sum1 < 18446744073709551616) (HF1 : Hid (fewF ⟨k1, q1, on1, c1, ⟨sh1, pr1, si1, st1⟩, sum1, tt1⟩ = true)) (HEA : Hid (frEnc ⟨k1, q1, on1, c1, ⟨sh1, pr1, si1, st1⟩, sum1, tt1⟩ = ([], 1))) :
    Calls Try.prog 6 #[.agg #[.int .i64 k1, .int .i64 q1, .bool on1, .string ⟨c1.toArray⟩, .int .i64 sh1, .int .i64 pr1, .int .i64 si1, .string ⟨st1.toArray⟩, .int .u64 sum1, v1], .int .i64 p, .agg #[.int .u8 m0.toNat, .int .u8 m1.toNat, .int .u8 m2.toNat, .int .u8 m3.toNat]] w fun e w' => e = .returned (.bool true) ∧ Below w.heap.size w w' := by
  obtain ⟨s1, n1, n2⟩ := fewF_get HF1.out
  simp only at s1 n1 n2
  have HSA := Lib.hid s1
  clear s1
  obtain ⟨va, ca, rfl, -⟩ := hv1.open'
  have b0 := bl_newZ w (.cells #[.int .i64 k1, .int .i64 q1, .bool on1, .string ⟨c1.toArray⟩, .int .i64 sh1, .int .i64 pr1, .int .i64 si1, .string ⟨st1.toArray⟩, .int .u64 sum1, .slice va tt1.length ca] 27)
  have b1 := bl_newZ (w.alloc (.cells #[.int .i64 k1, .int .i64 q1, .bool on1, .string ⟨c1.toArray⟩, .int .i64 sh1, .int .i64 pr1, .int .i64 si1, .string ⟨st1.toArray⟩, .int .u64 sum1, .slice va tt1.length ca] 27)) (.cells #[.int .u8 m0.toNat, .int .u8 m1.toNat, .int .u8 m2.toNat, .int .u8 m3.toNat] 39)
  have HB := Lib.hid (below2Z b0 b1)
  have VA := Lib.hid ((hv1.later b0).later b1)
  have FA := newQ w (.cells #[.int .i64 k1, .int .i64 q1, .bool on1, .string ⟨c1.toArray⟩, .int .i64 sh1, .int .i64 pr1, .int .i64 si1, .string ⟨st1.toArray⟩, .int .u64 sum1, .slice va tt1.length ca] 27)
  replace FA := upQ FA b1
  replace FA := Lib.hid FA
  have M := newQ (w.alloc (.cells #[.int .i64 k1, .int .i64 q1, .bool on1, .string ⟨c1.toArray⟩, .int .i64 sh1, .int .i64 pr1, .int .i64 si1, .string ⟨st1.toArray⟩, .int .u64 sum1, .slice va tt1.length ca] 27)) (.cells #[.int .u8 m0.toNat, .int .u8 m1.toNat, .int .u8 m2.toNat, .int .u8 m3.toNat] 39)
  rw [World.size_alloc] at M
  replace M := Lib.hid M
  clear b0 b1
  clear hv1
  go_enter Try.func6, Try.ntmps6
  obtain ⟨⟨FAc0, FAc1, FAc2, FAc3, FAc4, FAc5, FAc6, FAc7, FAc8, FAc9⟩, ⟨FAf0, FAf1, FAf2, FAf3, FAf4, FAf5, FAf6, FAf7, FAf8, FAf9⟩⟩ := blk10 FA.out
  go_wp2_with fail
  clear FAc0 FAc1 FAc2 FAc3 FAc4 FAc5 FAc6 FAc7 FAc8 FAc9 FAf0 FAf1 FAf2 FAf3 FAf4 FAf5 FAf6 FAf7 FAf8 FAf9
  refine (fewf_eq VA.out k1 q1 on1 c1 sh1 pr1 si1 st1 sum1 hc1 hs1 HF1).mono ?_
  rintro e w3 ⟨rfl, b3⟩
  replace FA := Lib.hid (upQ FA.out b3)
  replace M := Lib.hid (upQ M.out b3)
  replace VA := Lib.hid (VA.out.later b3)
  replace HB := Lib.hid (below2Z HB.out b3)
  clear b3
  obtain ⟨⟨FAc0, FAc1, FAc2, FAc3, FAc4, FAc5, FAc6, FAc7, FAc8, FAc9⟩, ⟨FAf0, FAf1, FAf2, FAf3, FAf4, FAf5, FAf6, FAf7, FAf8, FAf9⟩⟩ := blk10 FA.out
  go_wp2_with fail
  clear FAc0 FAc1 FAc2 FAc3 FAc4 FAc5 FAc6 FAc7 FAc8 FAc9 FAf0 FAf1 FAf2 FAf3 FAf4 FAf5 FAf6 FAf7 FAf8 FAf9
  refine (frenc_any VA.out HSA.out k1 q1 on1 c1 sh1 pr1 si1 st1 sum1 hu1 n1 n2 HEA).mono ?_
  rintro e w4 ⟨rfl, b4⟩
  replace FA := Lib.hid (upQ FA.out b4)
  replace M := Lib.hid (upQ M.out b4)
  replace VA := Lib.hid (VA.out.later b4)
  replace HB := Lib.hid (below2Z HB.out b4)
  clear b4
  go_wp2_with fail
  refine (live6 _).mono ?_
  rintro e w5 ⟨rfl, b5⟩
  replace FA := Lib.hid (upQ FA.out b5)
  replace M := Lib.hid (upQ M.out b5)
  replace VA := Lib.hid (VA.out.later b5)
  replace HB := Lib.hid (below2Z HB.out b5)
  clear b5
  go_wp2_with fail
  go_ret
  exact ⟨rfl, HB.out⟩

set_option maxHeartbeats 3200000 in
set_option maxRecDepth 100000 in
theorem fws_3 {w : World} {v1 : Value} {k1 q1 sh1 pr1 si1 : Int} {on1 : Bool} {c1 st1 : List UInt8} {sum1 : Nat} {tt1 : List Row} (hv1 : Tab w v1 tt1) (p : Int) (m0 m1 m2 m3 : UInt8) (hc1 : c1.length ≤ maxLen) (hs1 : st1.length ≤ maxLen) {l1 : List UInt8} (hl1 : Hid (l1.length ≤ 2000)) (hp : p < 0) (hu1 : sum1 < 18446744073709551616) (HF1 : Hid (fewF ⟨k1, q1, on1, c1, ⟨sh1, pr1, si1, st1⟩, sum1, tt1⟩ = true)) (HEA : Hid (frEnc ⟨k1, q1, on1, c1, ⟨sh1, pr1, si1, st1⟩, sum1, tt1⟩ = (l1, 0))) :
    Calls Try.prog 6 #[.agg #[.int .i64 k1, .int .i64 q1, .bool on1, .string ⟨c1.toArray⟩, .int .i64 sh1, .int .i64 pr1, .int .i64 si1, .string ⟨st1.toArray⟩, .int .u64 sum1, v1], .int .i64 p, .agg #[.int .u8 m0.toNat, .int .u8 m1.toNat, .int .u8 m2.toNat, .int .u8 m3.toNat]] w fun e w' => e = .returned (.bool true) ∧ Below w.heap.size w w' := by
  obtain ⟨s1, n1, n2⟩ := fewF_get HF1.out
  simp only at s1 n1 n2
  have HSA := Lib.hid s1
  clear s1
  have g2 : decide (p < 0) = true := by rw [decide_eq_true_eq]; exact hp
  clear hp
  have hsz : (⟨l1.toArray⟩ : ByteArray).size = l1.length := size_bytes l1
  have hl9 : l1.length ≤ 9223372036854775807 := by have := hl1.out; omega
  obtain ⟨va, ca, rfl, -⟩ := hv1.open'
  have b0 := bl_newZ w (.cells #[.int .i64 k1, .int .i64 q1, .bool on1, .string ⟨c1.toArray⟩, .int .i64 sh1, .int .i64 pr1, .int .i64 si1, .string ⟨st1.toArray⟩, .int .u64 sum1, .slice va tt1.length ca] 27)
  have b1 := bl_newZ (w.alloc (.cells #[.int .i64 k1, .int .i64 q1, .bool on1, .string ⟨c1.toArray⟩, .int .i64 sh1, .int .i64 pr1, .int .i64 si1, .string ⟨st1.toArray⟩, .int .u64 sum1, .slice va tt1.length ca] 27)) (.cells #[.int .u8 m0.toNat, .int .u8 m1.toNat, .int .u8 m2.toNat, .int .u8 m3.toNat] 39)
  have HB := Lib.hid (below2Z b0 b1)
  have VA := Lib.hid ((hv1.later b0).later b1)
  have FA := newQ w (.cells #[.int .i64 k1, .int .i64 q1, .bool on1, .string ⟨c1.toArray⟩, .int .i64 sh1, .int .i64 pr1, .int .i64 si1, .string ⟨st1.toArray⟩, .int .u64 sum1, .slice va tt1.length ca] 27)
  replace FA := upQ FA b1
  replace FA := Lib.hid FA
  have M := newQ (w.alloc (.cells #[.int .i64 k1, .int .i64 q1, .bool on1, .string ⟨c1.toArray⟩, .int .i64 sh1, .int .i64 pr1, .int .i64 si1, .string ⟨st1.toArray⟩, .int .u64 sum1, .slice va tt1.length ca] 27)) (.cells #[.int .u8 m0.toNat, .int .u8 m1.toNat, .int .u8 m2.toNat, .int .u8 m3.toNat] 39)
  rw [World.size_alloc] at M
  replace M := Lib.hid M
  clear b0 b1
  clear hv1
  go_enter Try.func6, Try.ntmps6
  obtain ⟨⟨FAc0, FAc1, FAc2, FAc3, FAc4, FAc5, FAc6, FAc7, FAc8, FAc9⟩, ⟨FAf0, FAf1, FAf2, FAf3, FAf4, FAf5, FAf6, FAf7, FAf8, FAf9⟩⟩ := blk10 FA.out
  go_wp2_with fail
  clear FAc0 FAc1 FAc2 FAc3 FAc4 FAc5 FAc6 FAc7 FAc8 FAc9 FAf0 FAf1 FAf2 FAf3 FAf4 FAf5 FAf6 FAf7 FAf8 FAf9
  refine (fewf_eq VA.out k1 q1 on1 c1 sh1 pr1 si1 st1 sum1 hc1 hs1 HF1).mono ?_
  rintro e w3 ⟨rfl, b3⟩
  replace FA := Lib.hid (upQ FA.out b3)
  replace M := Lib.hid (upQ M.out b3)
  replace VA := Lib.hid (VA.out.later b3)
  replace HB := Lib.hid (below2Z HB.out b3)
  clear b3
  obtain ⟨⟨FAc0, FAc1, FAc2, FAc3, FAc4, FAc5, FAc6, FAc7, FAc8, FAc9⟩, ⟨FAf0, FAf1, FAf2, FAf3, FAf4, FAf5, FAf6, FAf7, FAf8, FAf9⟩⟩ := blk10 FA.out
  go_wp2_with fail
  clear FAc0 FAc1 FAc2 FAc3 FAc4 FAc5 FAc6 FAc7 FAc8 FAc9 FAf0 FAf1 FAf2 FAf3 FAf4 FAf5 FAf6 FAf7 FAf8 FAf9
  refine (frenc_any VA.out HSA.out k1 q1 on1 c1 sh1 pr1 si1 st1 sum1 hu1 n1 n2 HEA).mono ?_
  rintro e w4 ⟨rfl, b4⟩
  replace FA := Lib.hid (upQ FA.out b4)
  replace M := Lib.hid (upQ M.out b4)
  replace VA := Lib.hid (VA.out.later b4)
  replace HB := Lib.hid (below2Z HB.out b4)
  clear b4
  go_wp2_with fail
  refine (live6 _).mono ?_
  rintro e w5 ⟨rfl, b5⟩
  replace FA := Lib.hid (upQ FA.out b5)
  replace M := Lib.hid (upQ M.out b5)
  replace VA := Lib.hid (VA.out.later b5)
  replace HB := Lib.hid (below2Z HB.out b5)
  clear b5
  go_wp2_with fail
  go_ret
  exact ⟨rfl, HB.out⟩

set_option maxHeartbeats 3200000 in
set_option maxRecDepth 100000 in
theorem fws_4 {w : World} {v1 : Value} {k1 q1 sh1 pr1 si1 : Int} {on1 : Bool} {c1 st1 : List UInt8} {sum1 : Nat} {tt1 : List Row} (hv1 : Tab w v1 tt1) (p : Int) (m0 m1 m2 m3 : UInt8) (hc1 : c1.length ≤ maxLen) (hs1 : st1.length ≤ maxLen) {l1 : List UInt8} (hl1 : Hid (l1.length ≤ 2000)) (hp0 : 0 ≤ p) (hp : (l1.length : Int) ≤ p) (hu1 : sum1 < 18446744073709551616) (HF1 : Hid (fewF ⟨k1, q1, on1, c1, ⟨sh1, pr1, si1, st1⟩, sum1, tt1⟩ = true)) (HEA : Hid (frEnc ⟨k1, q1, on1, c1, ⟨sh1, pr1, si1, st1⟩, sum1, tt1⟩ = (l1, 0))) :
    Calls Try.prog 6 #[.agg #[.int .i64 k1, .int .i64 q1, .bool on1, .string ⟨c1.toArray⟩, .int .i64 sh1, .int .i64 pr1, .int .i64 si1, .string ⟨st1.toArray⟩, .int .u64 sum1, v1], .int .i64 p, .agg #[.int .u8 m0.toNat, .int .u8 m1.toNat, .int .u8 m2.toNat, .int .u8 m3.toNat]] w fun e w' => e = .returned (.bool true) ∧ Below w.heap.size w w' := by
  obtain ⟨s1, n1, n2⟩ := fewF_get HF1.out
  simp only at s1 n1 n2
  have HSA := Lib.hid s1
  clear s1
  have g2 : decide (p < 0) = false := by rw [decide_eq_false_iff_not]; omega
  have g3 : decide ((l1.length : Int) ≤ p) = true := by rw [decide_eq_true_eq]; exact hp
  clear hp hp0
  have hsz : (⟨l1.toArray⟩ : ByteArray).size = l1.length := size_bytes l1
  have hl9 : l1.length ≤ 9223372036854775807 := by have := hl1.out; omega
  obtain ⟨va, ca, rfl, -⟩ := hv1.open'
  have b0 := bl_newZ w (.cells #[.int .i64 k1, .int .i64 q1, .bool on1, .string ⟨c1.toArray⟩, .int .i64 sh1, .int .i64 pr1, .int .i64 si1, .string ⟨st1.toArray⟩, .int .u64 sum1, .slice va tt1.length ca] 27)
  have b1 := bl_newZ (w.alloc (.cells #[.int .i64 k1, .int .i64 q1, .bool on1, .string ⟨c1.toArray⟩, .int .i64 sh1, .int .i64 pr1, .int .i64 si1, .string ⟨st1.toArray⟩, .int .u64 sum1, .slice va tt1.length ca] 27)) (.cells #[.int .u8 m0.toNat, .int .u8 m1.toNat, .int .u8 m2.toNat, .int .u8 m3.toNat] 39)
  have HB := Lib.hid (below2Z b0 b1)
  have VA := Lib.hid ((hv1.later b0).later b1)
  have FA := newQ w (.cells #[.int .i64 k1, .int .i64 q1, .bool on1, .string ⟨c1.toArray⟩, .int .i64 sh1, .int .i64 pr1, .int .i64 si1, .string ⟨st1.toArray⟩, .int .u64 sum1, .slice va tt1.length ca] 27)
  replace FA := upQ FA b1
  replace FA := Lib.hid FA
  have M := newQ (w.alloc (.cells #[.int .i64 k1, .int .i64 q1, .bool on1, .string ⟨c1.toArray⟩, .int .i64 sh1, .int .i64 pr1, .int .i64 si1, .string ⟨st1.toArray⟩, .int .u64 sum1, .slice va tt1.length ca] 27)) (.cells #[.int .u8 m0.toNat, .int .u8 m1.toNat, .int .u8 m2.toNat, .int .u8 m3.toNat] 39)
  rw [World.size_alloc] at M
  replace M := Lib.hid M
  clear b0 b1
  clear hv1
  go_enter Try.func6, Try.ntmps6
  obtain ⟨⟨FAc0, FAc1, FAc2, FAc3, FAc4, FAc5, FAc6, FAc7, FAc8, FAc9⟩, ⟨FAf0, FAf1, FAf2, FAf3, FAf4, FAf5, FAf6, FAf7, FAf8, FAf9⟩⟩ := blk10 FA.out
  go_wp2_with fail
  clear FAc0 FAc1 FAc2 FAc3 FAc4 FAc5 FAc6 FAc7 FAc8 FAc9 FAf0 FAf1 FAf2 FAf3 FAf4 FAf5 FAf6 FAf7 FAf8 FAf9
  refine (fewf_eq VA.out k1 q1 on1 c1 sh1 pr1 si1 st1 sum1 hc1 hs1 HF1).mono ?_
  rintro e w3 ⟨rfl, b3⟩
  replace FA := Lib.hid (upQ FA.out b3)
  replace M := Lib.hid (upQ M.out b3)
  replace VA := Lib.hid (VA.out.later b3)
  replace HB := Lib.hid (below2Z HB.out b3)
  clear b3
  obtain ⟨⟨FAc0, FAc1, FAc2, FAc3, FAc4, FAc5, FAc6, FAc7, FAc8, FAc9⟩, ⟨FAf0, FAf1, FAf2, FAf3, FAf4, FAf5, FAf6, FAf7, FAf8, FAf9⟩⟩ := blk10 FA.out
  go_wp2_with fail
  clear FAc0 FAc1 FAc2 FAc3 FAc4 FAc5 FAc6 FAc7 FAc8 FAc9 FAf0 FAf1 FAf2 FAf3 FAf4 FAf5 FAf6 FAf7 FAf8 FAf9
  refine (frenc_any VA.out HSA.out k1 q1 on1 c1 sh1 pr1 si1 st1 sum1 hu1 n1 n2 HEA).mono ?_
  rintro e w4 ⟨rfl, b4⟩
  replace FA := Lib.hid (upQ FA.out b4)
  replace M := Lib.hid (upQ M.out b4)
  replace VA := Lib.hid (VA.out.later b4)
  replace HB := Lib.hid (below2Z HB.out b4)
  clear b4
  go_wp2_with fail
  refine (live6 _).mono ?_
  rintro e w5 ⟨rfl, b5⟩
  replace FA := Lib.hid (upQ FA.out b5)
  replace M := Lib.hid (upQ M.out b5)
  replace VA := Lib.hid (VA.out.later b5)
  replace HB := Lib.hid (below2Z HB.out b5)
  clear b5
  go_wp2_with fail
  go_ret
  exact ⟨rfl, HB.out⟩

set_option maxHeartbeats 3200000 in
set_option maxRecDepth 100000 in
theorem fws_5 {w : World} {v1 : Value} {k1 q1 sh1 pr1 si1 : Int} {on1 : Bool} {c1 st1 : List UInt8} {sum1 : Nat} {tt1 : List Row} (hv1 : Tab w v1 tt1) (p : Nat) (m0 m1 m2 m3 : UInt8) (hc1 : c1.length ≤ maxLen) (hs1 : st1.length ≤ maxLen) {l1 : List UInt8} (hl1 : Hid (l1.length ≤ 2000)) (hp : p < l1.length) (hu1 : sum1 < 18446744073709551616) (HF1 : Hid (fewF ⟨k1, q1, on1, c1, ⟨sh1, pr1, si1, st1⟩, sum1, tt1⟩ = true)) (HEA : Hid (frEnc ⟨k1, q1, on1, c1, ⟨sh1, pr1, si1, st1⟩, sum1, tt1⟩ = (l1, 0))) (HD0 : Hid (frDec l1 = (⟨k1, q1, on1, c1, ⟨sh1, pr1, si1, st1⟩, sum1, tt1⟩, 0))) (HD1 : Hid (∀ place i u V, SpoilAt l1 place i u V → i ≤ 4 → V ≠ 0 → frDec u = (⟨0, 0, false, [], ⟨0, 0, 0, []⟩, 0, []⟩, 4))) :
    Calls Try.prog 6 #[.agg #[.int .i64 k1, .int .i64 q1, .bool on1, .string ⟨c1.toArray⟩, .int .i64 sh1, .int .i64 pr1, .int .i64 si1, .string ⟨st1.toArray⟩, .int .u64 sum1, v1], .int .i64 (p : Nat), .agg #[.int .u8 m0.toNat, .int .u8 m1.toNat, .int .u8 m2.toNat, .int .u8 m3.toNat]] w fun e w' => e = .returned (.bool true) ∧ Below w.heap.size w w' := by
  obtain ⟨s1, n1, n2⟩ := fewF_get HF1.out
  simp only at s1 n1 n2
  have HSA := Lib.hid s1
  clear s1
  have hll := hl1.out
  have hcv := fun w => Lib.run_convert_string_bytes (P := Try.prog) w 9 40 5 ⟨l1.toArray⟩ Try.underlying9 Try.underlying40 Try.underlying5
  have g2 : decide ((p : Int) < 0) = false := by simp
  have g3 : decide ((l1.length : Int) ≤ (p : Int)) = false := by simp; omega
  have g3b : decide (l1.length ≤ p) = false := by simp; omega
  have hsz : (⟨l1.toArray⟩ : ByteArray).size = l1.length := size_bytes l1
  obtain ⟨va, ca, rfl, -⟩ := hv1.open'
  have b0 := bl_newZ w (.cells #[.int .i64 k1, .int .i64 q1, .bool on1, .string ⟨c1.toArray⟩, .int .i64 sh1, .int .i64 pr1, .int .i64 si1, .string ⟨st1.toArray⟩, .int .u64 sum1, .slice va tt1.length ca] 27)
  have b1 := bl_newZ (w.alloc (.cells #[.int .i64 k1, .int .i64 q1, .bool on1, .string ⟨c1.toArray⟩, .int .i64 sh1, .int .i64 pr1, .int .i64 si1, .string ⟨st1.toArray⟩, .int .u64 sum1, .slice va tt1.length ca] 27)) (.cells #[.int .u8 m0.toNat, .int .u8 m1.toNat, .int .u8 m2.toNat, .int .u8 m3.toNat] 39)
  have HB := Lib.hid (below2Z b0 b1)
  have VA := Lib.hid ((hv1.later b0).later b1)
  have FA := newQ w (.cells #[.int .i64 k1, .int .i64 q1, .bool on1, .string ⟨c1.toArray⟩, .int .i64 sh1, .int .i64 pr1, .int .i64 si1, .string ⟨st1.toArray⟩, .int .u64 sum1, .slice va tt1.length ca] 27)
  replace FA := upQ FA b1
  replace FA := Lib.hid FA
  have M := newQ (w.alloc (.cells #[.int .i64 k1, .int .i64 q1, .bool on1, .string ⟨c1.toArray⟩, .int .i64 sh1, .int .i64 pr1, .int .i64 si1, .string ⟨st1.toArray⟩, .int .u64 sum1, .slice va tt1.length ca] 27)) (.cells #[.int .u8 m0.toNat, .int .u8 m1.toNat, .int .u8 m2.toNat, .int .u8 m3.toNat] 39)
  rw [World.size_alloc] at M
  replace M := Lib.hid M
  clear b0 b1
  clear hv1
  go_enter Try.func6, Try.ntmps6
  obtain ⟨⟨FAc0, FAc1, FAc2, FAc3, FAc4, FAc5, FAc6, FAc7, FAc8, FAc9⟩, ⟨FAf0, FAf1, FAf2, FAf3, FAf4, FAf5, FAf6, FAf7, FAf8, FAf9⟩⟩ := blk10 FA.out
  go_wp2_with fail
  clear FAc0 FAc1 FAc2 FAc3 FAc4 FAc5 FAc6 FAc7 FAc8 FAc9 FAf0 FAf1 FAf2 FAf3 FAf4 FAf5 FAf6 FAf7 FAf8 FAf9
  refine (fewf_eq VA.out k1 q1 on1 c1 sh1 pr1 si1 st1 sum1 hc1 hs1 HF1).mono ?_
  rintro e w3 ⟨rfl, b3⟩
  replace FA := Lib.hid (upQ FA.out b3)
  replace M := Lib.hid (upQ M.out b3)
  replace VA := Lib.hid (VA.out.later b3)
  replace HB := Lib.hid (below2Z HB.out b3)
  clear b3
  obtain ⟨⟨FAc0, FAc1, FAc2, FAc3, FAc4, FAc5, FAc6, FAc7, FAc8, FAc9⟩, ⟨FAf0, FAf1, FAf2, FAf3, FAf4, FAf5, FAf6, FAf7, FAf8, FAf9⟩⟩ := blk10 FA.out
  go_wp2_with fail
  clear FAc0 FAc1 FAc2 FAc3 FAc4 FAc5 FAc6 FAc7 FAc8 FAc9 FAf0 FAf1 FAf2 FAf3 FAf4 FAf5 FAf6 FAf7 FAf8 FAf9
  refine (frenc_any VA.out HSA.out k1 q1 on1 c1 sh1 pr1 si1 st1 sum1 hu1 n1 n2 HEA).mono ?_
  rintro e w4 ⟨rfl, b4⟩
  replace FA := Lib.hid (upQ FA.out b4)
  replace M := Lib.hid (upQ M.out b4)
  replace VA := Lib.hid (VA.out.later b4)
  replace HB := Lib.hid (below2Z HB.out b4)
  clear b4
  go_wp2_with fail
  obtain ⟨⟨Mc0, Mc1, Mc2, Mc3⟩, -⟩ := blk4 M.out
  obtain ⟨ms, hms⟩ : ∃ ms, ms = [m0, m1, m2, m3] := ⟨_, rfl⟩
  have hml : ms.length = 4 := by rw [hms]; rfl
  have hszw : w.heap.size + 2 ≤ w4.heap.size := by have := (Array.getElem?_eq_some_iff.1 M.out).1; omega
  have hM1 : Hid (BytesAtF w4 (w.heap.size + 1) ms) := by
    intro j hj
    rw [hml] at hj
    rw [hms]
    match j, hj with
    | 0, _ => exact Mc0
    | 1, _ => exact Mc1
    | 2, _ => exact Mc2
    | 3, _ => exact Mc3
  clear Mc0 Mc1 Mc2 Mc3 hms
  have hR0 : Hid (RowB (Lib.bytesWorld w4 5 ⟨l1.toArray⟩) w4.heap.size l1) := fun j hj => ⟨bytesWorld_list w4 5 l1 j hj, bytesWorld_frozen w4 5 _ j (by rw [size_bytes]; exact hj)⟩
  have hM2 : Hid (BytesAtF (Lib.bytesWorld w4 5 ⟨l1.toArray⟩) (w.heap.size + 1) ms) := fun j hj => by
    rw [Lib.bytesWorld_old _ _ _ _ (by show w.heap.size + 1 < w4.heap.size; omega), hM1.out j hj]
  have hB1 : Below w.heap.size w (Lib.bytesWorld w4 5 ⟨l1.toArray⟩) := below2Z HB.out (bytesWorld_below w4 _ _)
  have hne : ¬ w.heap.size + 1 = w4.heap.size := by omega
  have hBW : w.heap.size ≤ w4.heap.size := by omega
  clear hcv hM1 M FA VA HB hszw
  generalize w4.heap.size = R at *
  go_loopw [10, 11] (fun ch i wr => ∃ (k : Nat) (c : Bool) (u : List UInt8) (V : Nat), k ≤ 4 ∧ i = .int .i64 k ∧ ch = .bool c ∧ Hid (SpoilAt l1 p k u V) ∧ Hid (c = true ↔ V ≠ 0) ∧ Hid (RowB wr R u) ∧ Hid (BytesAtF wr (w.heap.size + 1) ms) ∧ Below w.heap.size w wr)
    (fun _ i _ => 4 - (intOf i).toNat)
  case atStart => exact ⟨0, false, l1, 0, by omega, rfl, rfl, spoil_start l1 p, by show _ ↔ _; simp, hR0, hM2, hB1⟩
  case round =>
    obtain ⟨k, c, u, V, hk, rfl, rfl, HSp, HC, HR, HM, hnx⟩ := hrel
    have hul : u.length = l1.length := HSp.out.1
    by_cases hgo : k < 4 ∧ p + k < l1.length
    · obtain ⟨h1, h2⟩ := hgo
      have h2' : (p : Int) + k < (l1.length : Int) := by omega
      have hcell := (HR.out (p + k) (by omega)).1
      have hfr := (HR.out (p + k) (by omega)).2
      have hm := HM.out k (by omega)
      have hux : u[p + k]'(by omega) = u.getD (p + k) 0 := by simp [List.getD, List.getElem?_eq_getElem (show p + k < u.length by omega)]
      have HN := spoil_next (ms.getD k 0) HSp.out (show p + k < u.length by omega)
      rw [hux] at HN
      obtain ⟨x, hx⟩ : ∃ x, x = u.getD (p + k) 0 := ⟨_, rfl⟩
      obtain ⟨m, hm'⟩ : ∃ m, m = ms.getD k 0 := ⟨_, rfl⟩
      rw [← hx] at hcell HN
      rw [← hm'] at hm HN
      have hxor : bits .xor .u8 (x.toNat : Int) (m.toNat : Int) = ((x ^^^ m).toNat : Int) := by
        rw [u8_xor_nat _ _ x.toNat_lt m.toNat_lt, UInt8.toNat_xor]
      have HX := Lib.hid hx
      have HN' := Lib.hid HN
      have hR2 := Lib.hid (HR.out.set (p + k) (x ^^^ m) (by omega)).drew
      have hM2 : Hid (BytesAtF (wr.setCell ⟨R, p + k, none⟩ (.int .u8 (x ^^^ m).toNat)).drew (w.heap.size + 1) ms) := HM.out.set hne (p + k) (.int .u8 (x ^^^ m).toNat)
      clear hx hm' hux HN
      have hbel : Below w.heap.size w (wr.setCell ⟨R, p + k, none⟩ (.int .u8 (x ^^^ m).toNat)).drew := (hnx.setCell hBW _).drew
      have HBel := Lib.hid hbel
      have HIff : Hid (∀ b : Bool, (b = true ↔ m.toNat ≠ 0) → ((c || b) = true ↔ V ^^^ m.toNat * 2 ^ (8 * k) ≠ 0)) := by
        show ∀ b : Bool, _ → _
        intro b hb
        have h3 := HN'.out.2
        rw [ne_eq, h3, Bool.or_eq_true, HC.out, hb]
        by_cases hV : V = 0 <;> simp [hV]
      have h0 : (((m.toNat : Int) != 0) = true ∧ m.toNat ≠ 0) ∨ (((m.toNat : Int) != 0) = false ∧ m.toNat = 0) := by
        by_cases h : m.toNat = 0
        · exact .inr ⟨by simp [h], h⟩
        · exact .inl ⟨by simp; omega, h⟩
      have H0 := Lib.hid h0
      clear hbel h0 hul
      cases c with
      | true =>
        go_wp2_with fail
        go_region
        go_wp2_with fail
        go_roundw
        case rel => exact ⟨k + 1, true, _, _, by omega, by go_num, rfl, HN'.out.1, by show _ ↔ _; have := HIff.out (decide (m.toNat ≠ 0)) (by simp); simpa using this, hR2, hM2, HBel.out⟩
        case measure => simp [intOf]; omega
      | false =>
        rcases H0.out with ⟨g4, g5⟩ | ⟨g4, g5⟩
        · have G5 := Lib.hid g5
          clear g5 H0
          go_wp2_with fail
          go_region
          go_wp2_with fail
          go_roundw
          case rel => exact ⟨k + 1, true, _, _, by omega, by go_num, rfl, HN'.out.1, HIff.out true (by simp [G5.out]), hR2, hM2, HBel.out⟩
          case measure => simp [intOf]; omega
        · have G5 := Lib.hid g5
          clear g5 H0
          go_wp2_with fail
          go_region
          go_wp2_with fail
          go_roundw
          case rel => exact ⟨k + 1, false, _, _, by omega, by go_num, rfl, HN'.out.1, HIff.out false (by simp [G5.out]), hR2, hM2, HBel.out⟩
          case measure => simp [intOf]; omega
    · have hcb := fun cap => row_text HR.out cap
      have hu2 : u.length ≤ 4294967296 := by omega
      have hgo' : (k < 4 ∧ (l1.length : Int) ≤ (p : Int) + k) ∨ k = 4 := by omega
      have HGo := Lib.hid hgo'
      have hHB := Lib.hid hnx
      rw [hul] at hcb
      have HU := Lib.hid hu2
      have HK := Lib.hid hk
      clear hul hgo hgo' hu2 HR HM hM2 hR0 hB1 hnx
      cases c with
      | true =>
        have HDU := Lib.hid (HD1.out p k u V HSp.out HK.out (HC.out.1 rfl))
        clear HSp HC
        rcases HGo.out with ⟨h1, h2⟩ | rfl
        all_goals
          clear HGo
          have HB := hHB
          clear hHB
          go_wp2_with fail
          refine (frdec_any u HU.out HDU _).mono ?_
          rintro e w5 ⟨v5, rfl, hov5, b5⟩
          replace HB := Lib.hid (below2Z HB.out b5)
          obtain ⟨va5, vc5, rfl, -⟩ := Tab.open' (OwnR.tab hov5)
          have VG := Lib.hid (OwnR.tab hov5)
          clear hov5
          clear b5
          go_wp2_with fail
          have b6 := bl_newZ w5 (.cells #[.int .i64 0, .int .i64 0, .bool false, .string ⟨#[]⟩, .int .i64 0, .int .i64 0, .int .i64 0, .string ⟨#[]⟩, .int .u64 0, .slice va5 0 vc5] 27)
          have G := newQ w5 (.cells #[.int .i64 0, .int .i64 0, .bool false, .string ⟨#[]⟩, .int .i64 0, .int .i64 0, .int .i64 0, .string ⟨#[]⟩, .int .u64 0, .slice va5 0 vc5] 27)
          have hG : w.heap.size ≤ w5.heap.size := HB.out.size
          replace VG := Lib.hid (Tab.later VG.out b6)
          replace HB := Lib.hid (below2Z HB.out b6)
          clear b6
          replace G := Lib.hid G
          generalize w5.alloc (.cells #[.int .i64 0, .int .i64 0, .bool false, .string ⟨#[]⟩, .int .i64 0, .int .i64 0, .int .i64 0, .string ⟨#[]⟩, .int .u64 0, .slice va5 0 vc5] 27) = w7 at G VG HB ⊢
          generalize w5.heap.size = BG at G hG ⊢
          refine (frsame_eqF VG.out (OwnR.tab (ownR_nil _ 0)) (Lib.hid (frSame_iff.2 rfl))).mono ?_
          rintro e w8 ⟨rfl, b8⟩
          replace G := Lib.hid (upQ G.out b8)
          replace VG := Lib.hid (Tab.later VG.out b8)
          replace HB := Lib.hid (below2Z HB.out b8)
          clear b8
          go_wp2_with fail
          refine (live6 _).mono ?_
          rintro e w9 ⟨rfl, b9⟩
          replace G := Lib.hid (upQ G.out b9)
          replace VG := Lib.hid (Tab.later VG.out b9)
          replace HB := Lib.hid (below2Z HB.out b9)
          clear b9
          go_wp2_with fail
          go_ret
          exact ⟨rfl, HB.out⟩
      | false =>
        have hu1e : u = l1 := HSp.out.2.2.2 (Classical.byContradiction fun hV => absurd (HC.out.2 hV) (by decide))
        have HDU := HD0
        rw [← hu1e] at HDU
        clear hu1e
        clear HSp HC
        rcases HGo.out with ⟨h1, h2⟩ | rfl
        all_goals
          clear HGo
          have HB := hHB
          clear hHB
          go_wp2_with fail
          refine (frdec_any u HU.out HDU _).mono ?_
          rintro e w5 ⟨v5, rfl, hov5, b5⟩
          replace HB := Lib.hid (below2Z HB.out b5)
          obtain ⟨va5, vc5, rfl, -⟩ := Tab.open' (OwnR.tab hov5)
          have VG := Lib.hid (OwnR.tab hov5)
          clear hov5
          clear b5
          go_wp2_with fail
          have b6 := bl_newZ w5 (.cells #[.int .i64 k1, .int .i64 q1, .bool on1, .string ⟨c1.toArray⟩, .int .i64 sh1, .int .i64 pr1, .int .i64 si1, .string ⟨st1.toArray⟩, .int .u64 sum1, .slice va5 tt1.length vc5] 27)
          have G := newQ w5 (.cells #[.int .i64 k1, .int .i64 q1, .bool on1, .string ⟨c1.toArray⟩, .int .i64 sh1, .int .i64 pr1, .int .i64 si1, .string ⟨st1.toArray⟩, .int .u64 sum1, .slice va5 tt1.length vc5] 27)
          have hG : w.heap.size ≤ w5.heap.size := HB.out.size
          replace VG := Lib.hid (Tab.later VG.out b6)
          replace HB := Lib.hid (below2Z HB.out b6)
          clear b6
          replace G := Lib.hid G
          generalize w5.alloc (.cells #[.int .i64 k1, .int .i64 q1, .bool on1, .string ⟨c1.toArray⟩, .int .i64 sh1, .int .i64 pr1, .int .i64 si1, .string ⟨st1.toArray⟩, .int .u64 sum1, .slice va5 tt1.length vc5] 27) = w7 at G VG HB ⊢
          generalize w5.heap.size = BG at G hG ⊢
          refine (live6 _).mono ?_
          rintro e w8 ⟨rfl, b8⟩
          replace G := Lib.hid (upQ G.out b8)
          replace VG := Lib.hid (Tab.later VG.out b8)
          replace HB := Lib.hid (below2Z HB.out b8)
          clear b8
          go_wp2_with fail
          go_ret
          exact ⟨rfl, HB.out⟩

theorem spoilsF {w : World} {v1 : Value} {k1 q1 sh1 pr1 si1 : Int} {on1 : Bool} {c1 st1 : List UInt8} {sum1 : Nat} {tt1 : List Row} (hv1 : Tab w v1 tt1) (p : Int) (m0 m1 m2 m3 : UInt8) (hc1 : c1.length ≤ maxLen) (hs1 : st1.length ≤ maxLen) (hu1 : sum1 < 18446744073709551616) :
    Calls Try.prog 6 #[.agg #[.int .i64 k1, .int .i64 q1, .bool on1, .string ⟨c1.toArray⟩, .int .i64 sh1, .int .i64 pr1, .int .i64 si1, .string ⟨st1.toArray⟩, .int .u64 sum1, v1], .int .i64 p, .agg #[.int .u8 m0.toNat, .int .u8 m1.toNat, .int .u8 m2.toNat, .int .u8 m3.toNat]] w fun e w' => e = .returned (.bool true) ∧ Below w.heap.size w w' := by
  cases hf : fewF ⟨k1, q1, on1, c1, ⟨sh1, pr1, si1, st1⟩, sum1, tt1⟩ with
  | false => exact fws_1 hv1 p m0 m1 m2 m3 hc1 hs1 (Lib.hid hf)
  | true =>
  cases hm : frMay ⟨k1, q1, on1, c1, ⟨sh1, pr1, si1, st1⟩, sum1, tt1⟩ with
  | false => exact fws_2 hv1 p m0 m1 m2 m3 hc1 hs1 hu1 (Lib.hid hf) (Lib.hid (enc_notP hm))
  | true =>
  have hl := (enc_lenP hm).2
  by_cases h0 : p < 0
  · exact fws_3 hv1 p m0 m1 m2 m3 hc1 hs1 (Lib.hid hl) h0 hu1 (Lib.hid hf) (Lib.hid (enc_mayP hm))
  obtain ⟨p, rfl⟩ := Int.eq_ofNat_of_zero_le (show 0 ≤ p by omega)
  by_cases h1 : p < (cseal (frPlain ⟨k1, q1, on1, c1, ⟨sh1, pr1, si1, st1⟩, sum1, tt1⟩)).length
  · exact fws_5 hv1 p m0 m1 m2 m3 hc1 hs1 (Lib.hid hl) h1 hu1 (Lib.hid hf) (Lib.hid (enc_mayP hm)) (Lib.hid (frDec_plain hm hu1 rfl).1) (Lib.hid fun _ _ _ _ h hi hV => spoil_dec h hi hV)
  · exact fws_4 hv1 p m0 m1 m2 m3 hc1 hs1 (Lib.hid hl) (by omega) (by omega) hu1 (Lib.hid hf) (Lib.hid (enc_mayP hm))

theorem byte_of_wfF {z : Int} (h : (Lit.int .u8 z).wf = true) : ∃ b : UInt8, z = b.toNat := by
  have hb := bounds_u8 h
  refine ⟨u8of z.toNat, ?_⟩
  rw [u8of_toNat (by omega)]
  omega

theorem four_bytesF (zs : List Int) (h : zs.length = 4 ∧ ∀ z ∈ zs, (Lit.int .u8 z).wf = true) :
    ∃ m0 m1 m2 m3 : UInt8, (zs.map (Value.int .u8)).toArray = #[.int .u8 m0.toNat, .int .u8 m1.toNat, .int .u8 m2.toNat, .int .u8 m3.toNat] := by
  match zs, h with
  | [a, b, c, d], ⟨_, h⟩ =>
    obtain ⟨m0, rfl⟩ := byte_of_wfF (h a (by simp))
    obtain ⟨m1, rfl⟩ := byte_of_wfF (h b (by simp))
    obtain ⟨m2, rfl⟩ := byte_of_wfF (h c (by simp))
    obtain ⟨m3, rfl⟩ := byte_of_wfF (h d (by simp))
    exact ⟨m0, m1, m2, m3, rfl⟩

theorem walkFrameSpoils {w : World} {v1 : Value} {k1 q1 sh1 pr1 si1 : Int} {on1 : Bool} {c1 st1 : List UInt8} {sum1 : Nat} {tt1 : List Row} (hv1 : Tab w v1 tt1) (hc1 : c1.length ≤ maxLen) (hs1 : st1.length ≤ maxLen) (hu1 : sum1 < 18446744073709551616) (p : Int) (_ : (Lit.int .i64 p).wf = true) (zs : List Int) (hz : zs.length = 4 ∧ ∀ z ∈ zs, (Lit.int .u8 z).wf = true) :
    Calls Try.prog 6 #[.agg #[.int .i64 k1, .int .i64 q1, .bool on1, .string ⟨c1.toArray⟩, .int .i64 sh1, .int .i64 pr1, .int .i64 si1, .string ⟨st1.toArray⟩, .int .u64 sum1, v1], .int .i64 p, .agg (zs.map (Value.int .u8)).toArray] w fun e w' => e = .returned (.bool true) ∧ Below w.heap.size w w' := by
  obtain ⟨m0, m1, m2, m3, hm⟩ := four_bytesF zs hz
  rw [hm]
  exact spoilsF hv1 p m0 m1 m2 m3 hc1 hs1 hu1

end Go.Proofs.Ytohfhphiofobcaa

end

section

/-
  THE FRAME OF THE PROOF OF FrameSpoils: for every input the law returns true, and each argument reads behind the call as it read before. No condition.
-/
namespace Go.Proofs.Ytohfhphiofobcaa.frameSpoils
open Go.ChangeShapes Go.WideShapes Go.ChangeAt Go.RowKit
open Go.ChangeMaps (open_string shut_string)
set_option linter.unusedVariables false

theorem own : ownKnob Try.prog.godebug = none := by kernel_rfl
theorem laidOut : laidOutB Try.prog = true := by kernel_rfl

set_option maxRecDepth 100000 in
theorem lifted (os : Os) (started : os.Started) (H : Type) (enc : TypeId × Value → H) :
    ReturnsInHanded {} Try.checked os 6 .any (Rows.frameSpoilsSpec.pre6 enc Try.prog Try.f6 Rows.frameSpoilsRow.domain false) (Rows.frameSpoilsSpec.post enc Try.prog Try.f6 false true false false) := by
  refine returnsInHanded_of_change (C := Try.checked) own started (by kernel_rfl) Try.func6
    (ChangeSpec.witness6 (enc := enc) (C := Try.checked) false ⟨#[], #[.agg #[.int .i64 0, .int .i64 0, .bool false, .string ByteArray.empty, .int .i64 0, .int .i64 0, .int .i64 0, .string ByteArray.empty, .int .u64 0, .slice none 0 0], .int .i64 0, .agg #[.int .u8 0, .int .u8 0, .int .u8 0, .int .u8 0]], []⟩ 8 (by kernel_rfl) (by kernel_rfl) (by kernel_rfl) (by kernel_rfl)) ?_
  intro W base args ds gs before hval0 hW hcnd _
  have hval : ∀ (j : Nat) t v, Try.f6.params[j]? = some t → args[j]? = some v → Value.okWide Try.prog W .any base t v := hval0
  have hW' := hW
  obtain ⟨p, q, hA0, hV, rfl, hfz, hnd⟩ := hW
  have hA : DataW.TrodAll enc Try.prog W 0 (fun _ => true) true Try.f6.params.toList args.toList ds p := hA0
  rw [Try.params6] at hA hval
  obtain ⟨v0, vs0, d0, ds0, p0, q0, hargs, rfl, rfl, h0, r0⟩ := trodAll_cons hA
  obtain ⟨v1, vs1, d1, ds1, p1, q1, rfl, rfl, rfl, h1, r1⟩ := trodAll_cons r0
  obtain ⟨v2, vs2, d2, ds2, p2, q2, rfl, rfl, rfl, h2, r2⟩ := trodAll_cons r1
  obtain ⟨rfl, rfl, rfl⟩ := trodAll_nil r2
  obtain rfl : args = #[v0, v1, v2] := by cases args; simp_all
  obtain ⟨rfl, rfl⟩ := trodVars_none hV
  have k0 := h0
  have lt0 : ∀ x ∈ p0, x.block < W.heap.size := by obtain ⟨m, hm⟩ := k0; exact DataW.trod_lt m _ _ _ hm
  obtain ⟨f0, t0, rfl, c0, s0, u0, w0⟩ := open_frame (hval 0 27 v0 rfl rfl) h0
  have k1 := h1
  have lt1 : ∀ x ∈ p1, x.block < W.heap.size := by obtain ⟨m, hm⟩ := k1; exact DataW.trod_lt m _ _ _ hm
  obtain ⟨a1, rfl, hd1, hp1, w1⟩ := open_int Try.underlying3 (hval 1 3 v1 rfl rfl) h1
  have k2 := h2
  have lt2 : ∀ x ∈ p2, x.block < W.heap.size := by obtain ⟨m, hm⟩ := k2; exact DataW.trod_lt m _ _ _ hm
  obtain ⟨z2, rfl, w2⟩ := open_ints_array Try.underlying39 Try.underlying5 (by kernel_rfl) (by kernel_rfl) (hval 2 39 v2 rfl rfl) h2
  clear hA0 hval0
  refine (walkFrameSpoils (w := W) w0 c0 s0 u0 a1 w1 z2 w2).mono fun e W' ⟨he, bel⟩ => ?_
  subst he
  exact ⟨_, rfl, _, _, _, [], _, [], hW', trodAll_mk1 (shut_bool Try.underlying4 _), (trodAll_cons_mk (Below.trod laidOut (by kernel_rfl) (of_decide_eq_true (by kernel_rfl)) k0 bel lt0) (trodAll_cons_mk (Below.trod laidOut (by kernel_rfl) (of_decide_eq_true (by kernel_rfl)) k1 bel lt1) (trodAll_cons_mk (Below.trod laidOut (by kernel_rfl) (of_decide_eq_true (by kernel_rfl)) k2 bel lt2) trodAll_mk0))), rfl, bel.frame _, fun h => by cases h⟩

theorem over : Rows.frameSpoilsRow.holds Try.pinned (OpenSpec.ofChange Rows.frameSpoilsSpec) :=
  OpenClaim.holds_of_wide 6 Try.f6 rfl rfl rfl rfl rfl rfl rfl ⟨rfl, rfl, rfl, rfl, rfl⟩ rfl rfl rfl rfl rfl (by kernel_rfl) Try.func6 (by kernel_rfl)
    (of_decide_eq_true (by kernel_rfl)) (by unfold Func.isWrapper; first | (rw [if_pos (by decide +kernel)]; kernel_rfl) | (rw [if_neg (by decide +kernel)]; exact ⟨rfl, rfl⟩))
    (fun os started H enc _ => lifted os started H enc)

/-- THE STATEMENT. -/
theorem proved : Rows.FrameSpoilsSaid := over
#print axioms proved
end Go.Proofs.Ytohfhphiofobcaa.frameSpoils

end
