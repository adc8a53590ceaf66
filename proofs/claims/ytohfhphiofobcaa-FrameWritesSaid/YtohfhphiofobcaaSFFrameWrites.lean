/-
  THE PROOF OF FrameWrites: for every input the law returns true, and each argument reads behind the call as it read before. No condition.
-/
import Derived.Test.YtohfhphiofobcaaS18
import Derived.Test.YtohfhphiofobcaaS20
import Derived.Test.YtohfhphiofobcaaS21
import Derived.Test.YtohfhphiofobcaaS08
import Derived.Test.YtohfhphiofobcaaRows
import Derived.ProofKit
import Derived.OpenShut
import Derived.ShutString
import Derived.ChangeOld
import Derived.SliceStrings
import Derived.Lib.SmallJoins

section

/-
  THE WALK OF FrameWrites.
-/
namespace Go.Proofs.Ytohfhphiofobcaa
open Go.RowKit

set_option maxHeartbeats 3200000 in
set_option maxRecDepth 100000 in
theorem fww_1 {w : World} {v1 v2 : Value} {k1 q1 sh1 pr1 si1 : Int} {on1 : Bool} {c1 st1 : List UInt8} {sum1 : Nat} {tt1 : List Row} {k2 q2 sh2 pr2 si2 : Int} {on2 : Bool} {c2 st2 : List UInt8} {sum2 : Nat} {tt2 : List Row} (hv1 : Tab w v1 tt1) (hv2 : Tab w v2 tt2) (hc1 : c1.length ≤ maxLen) (hs1 : st1.length ≤ maxLen) (HF1 : Hid (fewF ⟨k1, q1, on1, c1, ⟨sh1, pr1, si1, st1⟩, sum1, tt1⟩ = false)) :
    Calls Try.prog 3 #[.agg #[.int .i64 k1, .int .i64 q1, .bool on1, .string ⟨c1.toArray⟩, .int .i64 sh1, .int .i64 pr1, .int .i64 si1, .string ⟨st1.toArray⟩, .int .u64 sum1, v1], .agg #[.int .i64 k2, .int .i64 q2, .bool on2, .string ⟨c2.toArray⟩, .int .i64 sh2, .int .i64 pr2, .int .i64 si2, .string ⟨st2.toArray⟩, .int .u64 sum2, v2]] w fun e w' => e = .returned (.bool true) ∧ Below w.heap.size w w' := by
  obtain ⟨va, ca, rfl, -⟩ := hv1.open'
  obtain ⟨vb, cb, rfl, -⟩ := hv2.open'
  have b0 := bl_newZ w (.cells #[.int .i64 k1, .int .i64 q1, .bool on1, .string ⟨c1.toArray⟩, .int .i64 sh1, .int .i64 pr1, .int .i64 si1, .string ⟨st1.toArray⟩, .int .u64 sum1, .slice va tt1.length ca] 27)
  have b1 := bl_newZ (w.alloc (.cells #[.int .i64 k1, .int .i64 q1, .bool on1, .string ⟨c1.toArray⟩, .int .i64 sh1, .int .i64 pr1, .int .i64 si1, .string ⟨st1.toArray⟩, .int .u64 sum1, .slice va tt1.length ca] 27)) (.cells #[.int .i64 k2, .int .i64 q2, .bool on2, .string ⟨c2.toArray⟩, .int .i64 sh2, .int .i64 pr2, .int .i64 si2, .string ⟨st2.toArray⟩, .int .u64 sum2, .slice vb tt2.length cb] 27)
  have HB := Lib.hid (below2Z b0 b1)
  have VA := Lib.hid ((hv1.later b0).later b1)
  have VB := Lib.hid ((hv2.later b0).later b1)
  have FA := newQ w (.cells #[.int .i64 k1, .int .i64 q1, .bool on1, .string ⟨c1.toArray⟩, .int .i64 sh1, .int .i64 pr1, .int .i64 si1, .string ⟨st1.toArray⟩, .int .u64 sum1, .slice va tt1.length ca] 27)
  replace FA := upQ FA b1
  replace FA := Lib.hid FA
  have FB := newQ (w.alloc (.cells #[.int .i64 k1, .int .i64 q1, .bool on1, .string ⟨c1.toArray⟩, .int .i64 sh1, .int .i64 pr1, .int .i64 si1, .string ⟨st1.toArray⟩, .int .u64 sum1, .slice va tt1.length ca] 27)) (.cells #[.int .i64 k2, .int .i64 q2, .bool on2, .string ⟨c2.toArray⟩, .int .i64 sh2, .int .i64 pr2, .int .i64 si2, .string ⟨st2.toArray⟩, .int .u64 sum2, .slice vb tt2.length cb] 27)
  rw [World.size_alloc] at FB
  replace FB := Lib.hid FB
  clear b0 b1
  clear hv1 hv2
  go_enter Try.func3, Try.ntmps3
  obtain ⟨⟨FAc0, FAc1, FAc2, FAc3, FAc4, FAc5, FAc6, FAc7, FAc8, FAc9⟩, ⟨FAf0, FAf1, FAf2, FAf3, FAf4, FAf5, FAf6, FAf7, FAf8, FAf9⟩⟩ := blk10 FA.out
  go_wp2_with fail
  clear FAc0 FAc1 FAc2 FAc3 FAc4 FAc5 FAc6 FAc7 FAc8 FAc9 FAf0 FAf1 FAf2 FAf3 FAf4 FAf5 FAf6 FAf7 FAf8 FAf9
  refine (fewf_eq VA.out k1 q1 on1 c1 sh1 pr1 si1 st1 sum1 hc1 hs1 HF1).mono ?_
  rintro e w3 ⟨rfl, b3⟩
  replace FA := Lib.hid (upQ FA.out b3)
  replace FB := Lib.hid (upQ FB.out b3)
  replace VA := Lib.hid (VA.out.later b3)
  replace VB := Lib.hid (VB.out.later b3)
  replace HB := Lib.hid (below2Z HB.out b3)
  clear b3
  go_wp2_with fail
  refine (live6 _).mono ?_
  rintro e w4 ⟨rfl, b4⟩
  replace FA := Lib.hid (upQ FA.out b4)
  replace FB := Lib.hid (upQ FB.out b4)
  replace VA := Lib.hid (VA.out.later b4)
  replace VB := Lib.hid (VB.out.later b4)
  replace HB := Lib.hid (below2Z HB.out b4)
  clear b4
  go_wp2_with fail
  go_ret
  exact ⟨rfl, HB.out⟩

set_option maxHeartbeats 3200000 in
set_option maxRecDepth 100000 in
theorem fww_2 {w : World} {v1 v2 : Value} {k1 q1 sh1 pr1 si1 : Int} {on1 : Bool} {c1 st1 : List UInt8} {sum1 : Nat} {tt1 : List Row} {k2 q2 sh2 pr2 si2 : Int} {on2 : Bool} {c2 st2 : List UInt8} {sum2 : Nat} {tt2 : List Row} (hv1 : Tab w v1 tt1) (hv2 : Tab w v2 tt2) (hc1 : c1.length ≤ maxLen) (hs1 : st1.length ≤ maxLen) (hc2 : c2.length ≤ maxLen) (hs2 : st2.length ≤ maxLen) (HF1 : Hid (fewF ⟨k1, q1, on1, c1, ⟨sh1, pr1, si1, st1⟩, sum1, tt1⟩ = true)) (HF2 : Hid (fewF ⟨k2, q2, on2, c2, ⟨sh2, pr2, si2, st2⟩, sum2, tt2⟩ = false)) :
    Calls Try.prog 3 #[.agg #[.int .i64 k1, .int .i64 q1, .bool on1, .string ⟨c1.toArray⟩, .int .i64 sh1, .int .i64 pr1, .int .i64 si1, .string ⟨st1.toArray⟩, .int .u64 sum1, v1], .agg #[.int .i64 k2, .int .i64 q2, .bool on2, .string ⟨c2.toArray⟩, .int .i64 sh2, .int .i64 pr2, .int .i64 si2, .string ⟨st2.toArray⟩, .int .u64 sum2, v2]] w fun e w' => e = .returned (.bool true) ∧ Below w.heap.size w w' := by
  obtain ⟨va, ca, rfl, -⟩ := hv1.open'
  obtain ⟨vb, cb, rfl, -⟩ := hv2.open'
  have b0 := bl_newZ w (.cells #[.int .i64 k1, .int .i64 q1, .bool on1, .string ⟨c1.toArray⟩, .int .i64 sh1, .int .i64 pr1, .int .i64 si1, .string ⟨st1.toArray⟩, .int .u64 sum1, .slice va tt1.length ca] 27)
  have b1 := bl_newZ (w.alloc (.cells #[.int .i64 k1, .int .i64 q1, .bool on1, .string ⟨c1.toArray⟩, .int .i64 sh1, .int .i64 pr1, .int .i64 si1, .string ⟨st1.toArray⟩, .int .u64 sum1, .slice va tt1.length ca] 27)) (.cells #[.int .i64 k2, .int .i64 q2, .bool on2, .string ⟨c2.toArray⟩, .int .i64 sh2, .int .i64 pr2, .int .i64 si2, .string ⟨st2.toArray⟩, .int .u64 sum2, .slice vb tt2.length cb] 27)
  have HB := Lib.hid (below2Z b0 b1)
  have VA := Lib.hid ((hv1.later b0).later b1)
  have VB := Lib.hid ((hv2.later b0).later b1)
  have FA := newQ w (.cells #[.int .i64 k1, .int .i64 q1, .bool on1, .string ⟨c1.toArray⟩, .int .i64 sh1, .int .i64 pr1, .int .i64 si1, .string ⟨st1.toArray⟩, .int .u64 sum1, .slice va tt1.length ca] 27)
  replace FA := upQ FA b1
  replace FA := Lib.hid FA
  have FB := newQ (w.alloc (.cells #[.int .i64 k1, .int .i64 q1, .bool on1, .string ⟨c1.toArray⟩, .int .i64 sh1, .int .i64 pr1, .int .i64 si1, .string ⟨st1.toArray⟩, .int .u64 sum1, .slice va tt1.length ca] 27)) (.cells #[.int .i64 k2, .int .i64 q2, .bool on2, .string ⟨c2.toArray⟩, .int .i64 sh2, .int .i64 pr2, .int .i64 si2, .string ⟨st2.toArray⟩, .int .u64 sum2, .slice vb tt2.length cb] 27)
  rw [World.size_alloc] at FB
  replace FB := Lib.hid FB
  clear b0 b1
  clear hv1 hv2
  go_enter Try.func3, Try.ntmps3
  obtain ⟨⟨FAc0, FAc1, FAc2, FAc3, FAc4, FAc5, FAc6, FAc7, FAc8, FAc9⟩, ⟨FAf0, FAf1, FAf2, FAf3, FAf4, FAf5, FAf6, FAf7, FAf8, FAf9⟩⟩ := blk10 FA.out
  go_wp2_with fail
  clear FAc0 FAc1 FAc2 FAc3 FAc4 FAc5 FAc6 FAc7 FAc8 FAc9 FAf0 FAf1 FAf2 FAf3 FAf4 FAf5 FAf6 FAf7 FAf8 FAf9
  refine (fewf_eq VA.out k1 q1 on1 c1 sh1 pr1 si1 st1 sum1 hc1 hs1 HF1).mono ?_
  rintro e w3 ⟨rfl, b3⟩
  replace FA := Lib.hid (upQ FA.out b3)
  replace FB := Lib.hid (upQ FB.out b3)
  replace VA := Lib.hid (VA.out.later b3)
  replace VB := Lib.hid (VB.out.later b3)
  replace HB := Lib.hid (below2Z HB.out b3)
  clear b3
  obtain ⟨⟨FBc0, FBc1, FBc2, FBc3, FBc4, FBc5, FBc6, FBc7, FBc8, FBc9⟩, ⟨FBf0, FBf1, FBf2, FBf3, FBf4, FBf5, FBf6, FBf7, FBf8, FBf9⟩⟩ := blk10 FB.out
  go_wp2_with fail
  clear FBc0 FBc1 FBc2 FBc3 FBc4 FBc5 FBc6 FBc7 FBc8 FBc9 FBf0 FBf1 FBf2 FBf3 FBf4 FBf5 FBf6 FBf7 FBf8 FBf9
  refine (fewf_eq VB.out k2 q2 on2 c2 sh2 pr2 si2 st2 sum2 hc2 hs2 HF2).mono ?_
  rintro e w4 ⟨rfl, b4⟩
  replace FA := Lib.hid (upQ FA.out b4)
  replace FB := Lib.hid (upQ FB.out b4)
  replace VA := Lib.hid (VA.out.later b4)
  replace VB := Lib.hid (VB.out.later b4)
  replace HB := Lib.hid (below2Z HB.out b4)
  clear b4
  go_wp2_with fail
  refine (live6 _).mono ?_
  rintro e w5 ⟨rfl, b5⟩
  replace FA := Lib.hid (upQ FA.out b5)
  replace FB := Lib.hid (upQ FB.out b5)
  replace VA := Lib.hid (VA.out.later b5)
  replace VB := Lib.hid (VB.out.later b5)
  replace HB := Lib.hid (below2Z HB.out b5)
  clear b5
  go_wp2_with fail
  go_ret
  exact ⟨rfl, HB.out⟩

set_option maxHeartbeats 3200000 in
set_option maxRecDepth 100000 in
theorem fww_3 {w : World} {v1 v2 : Value} {k1 q1 sh1 pr1 si1 : Int} {on1 : Bool} {c1 st1 : List UInt8} {sum1 : Nat} {tt1 : List Row} {k2 q2 sh2 pr2 si2 : Int} {on2 : Bool} {c2 st2 : List UInt8} {sum2 : Nat} {tt2 : List Row} (hv1 : Tab w v1 tt1) (hv2 : Tab w v2 tt2) (hc1 : c1.length ≤ maxLen) (hs1 : st1.length ≤ maxLen) (hc2 : c2.length ≤ maxLen) (hs2 : st2.length ≤ maxLen) (hu1 : sum1 < 18446744073709551616) (HF1 : Hid (fewF ⟨k1, q1, on1, c1, ⟨sh1, pr1, si1, st1⟩, sum1, tt1⟩ = true)) (HF2 : Hid (fewF ⟨k2, q2, on2, c2, ⟨sh2, pr2, si2, st2⟩, sum2, tt2⟩ = true)) {m q : Bool} (hm : frMay ⟨k1, q1, on1, c1, ⟨sh1, pr1, si1, st1⟩, sum1, tt1⟩ = m) (hq : frSame ⟨k1, q1, on1, c1, ⟨sh1, pr1, si1, st1⟩, sum1, tt1⟩ ⟨k2, q2, on2, c2, ⟨sh2, pr2, si2, st2⟩, sum2, tt2⟩ = q) {l : List UInt8} {er : Nat} (hen : frEnc ⟨k1, q1, on1, c1, ⟨sh1, pr1, si1, st1⟩, sum1, tt1⟩ = (l, er)) :
    Calls Try.prog 3 #[.agg #[.int .i64 k1, .int .i64 q1, .bool on1, .string ⟨c1.toArray⟩, .int .i64 sh1, .int .i64 pr1, .int .i64 si1, .string ⟨st1.toArray⟩, .int .u64 sum1, v1], .agg #[.int .i64 k2, .int .i64 q2, .bool on2, .string ⟨c2.toArray⟩, .int .i64 sh2, .int .i64 pr2, .int .i64 si2, .string ⟨st2.toArray⟩, .int .u64 sum2, v2]] w fun e w' => e = .returned (.bool true) ∧ Below w.heap.size w w' := by
  obtain ⟨s1, n1, n2⟩ := fewF_get HF1.out
  simp only at s1 n1 n2
  have HSA := Lib.hid s1
  clear s1
  have HM := Lib.hid hm
  have HQ := Lib.hid hq
  have HEN := Lib.hid hen
  clear hm hq hen
  obtain ⟨va, ca, rfl, -⟩ := hv1.open'
  obtain ⟨vb, cb, rfl, -⟩ := hv2.open'
  have b0 := bl_newZ w (.cells #[.int .i64 k1, .int .i64 q1, .bool on1, .string ⟨c1.toArray⟩, .int .i64 sh1, .int .i64 pr1, .int .i64 si1, .string ⟨st1.toArray⟩, .int .u64 sum1, .slice va tt1.length ca] 27)
  have b1 := bl_newZ (w.alloc (.cells #[.int .i64 k1, .int .i64 q1, .bool on1, .string ⟨c1.toArray⟩, .int .i64 sh1, .int .i64 pr1, .int .i64 si1, .string ⟨st1.toArray⟩, .int .u64 sum1, .slice va tt1.length ca] 27)) (.cells #[.int .i64 k2, .int .i64 q2, .bool on2, .string ⟨c2.toArray⟩, .int .i64 sh2, .int .i64 pr2, .int .i64 si2, .string ⟨st2.toArray⟩, .int .u64 sum2, .slice vb tt2.length cb] 27)
  have HB := Lib.hid (below2Z b0 b1)
  have VA := Lib.hid ((hv1.later b0).later b1)
  have VB := Lib.hid ((hv2.later b0).later b1)
  have FA := newQ w (.cells #[.int .i64 k1, .int .i64 q1, .bool on1, .string ⟨c1.toArray⟩, .int .i64 sh1, .int .i64 pr1, .int .i64 si1, .string ⟨st1.toArray⟩, .int .u64 sum1, .slice va tt1.length ca] 27)
  replace FA := upQ FA b1
  replace FA := Lib.hid FA
  have FB := newQ (w.alloc (.cells #[.int .i64 k1, .int .i64 q1, .bool on1, .string ⟨c1.toArray⟩, .int .i64 sh1, .int .i64 pr1, .int .i64 si1, .string ⟨st1.toArray⟩, .int .u64 sum1, .slice va tt1.length ca] 27)) (.cells #[.int .i64 k2, .int .i64 q2, .bool on2, .string ⟨c2.toArray⟩, .int .i64 sh2, .int .i64 pr2, .int .i64 si2, .string ⟨st2.toArray⟩, .int .u64 sum2, .slice vb tt2.length cb] 27)
  rw [World.size_alloc] at FB
  replace FB := Lib.hid FB
  clear b0 b1
  clear hv1 hv2
  go_enter Try.func3, Try.ntmps3
  obtain ⟨⟨FAc0, FAc1, FAc2, FAc3, FAc4, FAc5, FAc6, FAc7, FAc8, FAc9⟩, ⟨FAf0, FAf1, FAf2, FAf3, FAf4, FAf5, FAf6, FAf7, FAf8, FAf9⟩⟩ := blk10 FA.out
  go_wp2_with fail
  clear FAc0 FAc1 FAc2 FAc3 FAc4 FAc5 FAc6 FAc7 FAc8 FAc9 FAf0 FAf1 FAf2 FAf3 FAf4 FAf5 FAf6 FAf7 FAf8 FAf9
  refine (fewf_eq VA.out k1 q1 on1 c1 sh1 pr1 si1 st1 sum1 hc1 hs1 HF1).mono ?_
  rintro e w3 ⟨rfl, b3⟩
  replace FA := Lib.hid (upQ FA.out b3)
  replace FB := Lib.hid (upQ FB.out b3)
  replace VA := Lib.hid (VA.out.later b3)
  replace VB := Lib.hid (VB.out.later b3)
  replace HB := Lib.hid (below2Z HB.out b3)
  clear b3
  obtain ⟨⟨FBc0, FBc1, FBc2, FBc3, FBc4, FBc5, FBc6, FBc7, FBc8, FBc9⟩, ⟨FBf0, FBf1, FBf2, FBf3, FBf4, FBf5, FBf6, FBf7, FBf8, FBf9⟩⟩ := blk10 FB.out
  go_wp2_with fail
  clear FBc0 FBc1 FBc2 FBc3 FBc4 FBc5 FBc6 FBc7 FBc8 FBc9 FBf0 FBf1 FBf2 FBf3 FBf4 FBf5 FBf6 FBf7 FBf8 FBf9
  refine (fewf_eq VB.out k2 q2 on2 c2 sh2 pr2 si2 st2 sum2 hc2 hs2 HF2).mono ?_
  rintro e w4 ⟨rfl, b4⟩
  replace FA := Lib.hid (upQ FA.out b4)
  replace FB := Lib.hid (upQ FB.out b4)
  replace VA := Lib.hid (VA.out.later b4)
  replace VB := Lib.hid (VB.out.later b4)
  replace HB := Lib.hid (below2Z HB.out b4)
  clear b4
  obtain ⟨⟨FAc0, FAc1, FAc2, FAc3, FAc4, FAc5, FAc6, FAc7, FAc8, FAc9⟩, ⟨FAf0, FAf1, FAf2, FAf3, FAf4, FAf5, FAf6, FAf7, FAf8, FAf9⟩⟩ := blk10 FA.out
  go_wp2_with fail
  clear FAc0 FAc1 FAc2 FAc3 FAc4 FAc5 FAc6 FAc7 FAc8 FAc9 FAf0 FAf1 FAf2 FAf3 FAf4 FAf5 FAf6 FAf7 FAf8 FAf9
  refine (frenc_any VA.out HSA.out k1 q1 on1 c1 sh1 pr1 si1 st1 sum1 hu1 n1 n2 HEN).mono ?_
  rintro e w5 ⟨rfl, b5⟩
  replace FA := Lib.hid (upQ FA.out b5)
  replace FB := Lib.hid (upQ FB.out b5)
  replace VA := Lib.hid (VA.out.later b5)
  replace VB := Lib.hid (VB.out.later b5)
  replace HB := Lib.hid (below2Z HB.out b5)
  clear b5
  obtain ⟨⟨FAc0, FAc1, FAc2, FAc3, FAc4, FAc5, FAc6, FAc7, FAc8, FAc9⟩, ⟨FAf0, FAf1, FAf2, FAf3, FAf4, FAf5, FAf6, FAf7, FAf8, FAf9⟩⟩ := blk10 FA.out
  go_wp2_with fail
  clear FAc0 FAc1 FAc2 FAc3 FAc4 FAc5 FAc6 FAc7 FAc8 FAc9 FAf0 FAf1 FAf2 FAf3 FAf4 FAf5 FAf6 FAf7 FAf8 FAf9
  refine (rfrenc_any VA.out HSA.out n1 n2 hu1 HEN).mono ?_
  rintro e w6 ⟨rfl, b6⟩
  replace FA := Lib.hid (upQ FA.out b6)
  replace FB := Lib.hid (upQ FB.out b6)
  replace VA := Lib.hid (VA.out.later b6)
  replace VB := Lib.hid (VB.out.later b6)
  replace HB := Lib.hid (below2Z HB.out b6)
  clear b6
  go_wp2_with fail
  obtain ⟨BS, hBS⟩ : ∃ BS : List (Nat × List Value), BS = [(w.heap.size, [.int .i64 k1, .int .i64 q1, .bool on1, .string ⟨c1.toArray⟩, .int .i64 sh1, .int .i64 pr1, .int .i64 si1, .string ⟨st1.toArray⟩, .int .u64 sum1, .slice va tt1.length ca]), (w.heap.size + 1, [.int .i64 k2, .int .i64 q2, .bool on2, .string ⟨c2.toArray⟩, .int .i64 sh2, .int .i64 pr2, .int .i64 si2, .string ⟨st2.toArray⟩, .int .u64 sum2, .slice vb tt2.length cb])] := ⟨_, rfl⟩
  have D0 := Lib.hid (show heldB w6 BS from by rw [hBS]; exact heldB_cons (cellsAt_block FA.out) (heldB_cons (cellsAt_block FB.out) (heldB_nil _)))
  have hq0 : ∀ X, heldB X BS → X.cell? ⟨w.heap.size, 0, none⟩ = some (.int .i64 k1) := fun X hx => heldB_get (vs := [.int .i64 k1, .int .i64 q1, .bool on1, .string ⟨c1.toArray⟩, .int .i64 sh1, .int .i64 pr1, .int .i64 si1, .string ⟨st1.toArray⟩, .int .u64 sum1, .slice va tt1.length ca]) hx (by rw [hBS]; simp) rfl
  have hq1 : ∀ X, heldB X BS → X.cell? ⟨w.heap.size, 1, none⟩ = some (.int .i64 q1) := fun X hx => heldB_get (vs := [.int .i64 k1, .int .i64 q1, .bool on1, .string ⟨c1.toArray⟩, .int .i64 sh1, .int .i64 pr1, .int .i64 si1, .string ⟨st1.toArray⟩, .int .u64 sum1, .slice va tt1.length ca]) hx (by rw [hBS]; simp) rfl
  have hq2 : ∀ X, heldB X BS → X.cell? ⟨w.heap.size, 2, none⟩ = some (.bool on1) := fun X hx => heldB_get (vs := [.int .i64 k1, .int .i64 q1, .bool on1, .string ⟨c1.toArray⟩, .int .i64 sh1, .int .i64 pr1, .int .i64 si1, .string ⟨st1.toArray⟩, .int .u64 sum1, .slice va tt1.length ca]) hx (by rw [hBS]; simp) rfl
  have hq3 : ∀ X, heldB X BS → X.cell? ⟨w.heap.size, 3, none⟩ = some (.string ⟨c1.toArray⟩) := fun X hx => heldB_get (vs := [.int .i64 k1, .int .i64 q1, .bool on1, .string ⟨c1.toArray⟩, .int .i64 sh1, .int .i64 pr1, .int .i64 si1, .string ⟨st1.toArray⟩, .int .u64 sum1, .slice va tt1.length ca]) hx (by rw [hBS]; simp) rfl
  have hq4 : ∀ X, heldB X BS → X.cell? ⟨w.heap.size, 4, none⟩ = some (.int .i64 sh1) := fun X hx => heldB_get (vs := [.int .i64 k1, .int .i64 q1, .bool on1, .string ⟨c1.toArray⟩, .int .i64 sh1, .int .i64 pr1, .int .i64 si1, .string ⟨st1.toArray⟩, .int .u64 sum1, .slice va tt1.length ca]) hx (by rw [hBS]; simp) rfl
  have hq5 : ∀ X, heldB X BS → X.cell? ⟨w.heap.size, 5, none⟩ = some (.int .i64 pr1) := fun X hx => heldB_get (vs := [.int .i64 k1, .int .i64 q1, .bool on1, .string ⟨c1.toArray⟩, .int .i64 sh1, .int .i64 pr1, .int .i64 si1, .string ⟨st1.toArray⟩, .int .u64 sum1, .slice va tt1.length ca]) hx (by rw [hBS]; simp) rfl
  have hq6 : ∀ X, heldB X BS → X.cell? ⟨w.heap.size, 6, none⟩ = some (.int .i64 si1) := fun X hx => heldB_get (vs := [.int .i64 k1, .int .i64 q1, .bool on1, .string ⟨c1.toArray⟩, .int .i64 sh1, .int .i64 pr1, .int .i64 si1, .string ⟨st1.toArray⟩, .int .u64 sum1, .slice va tt1.length ca]) hx (by rw [hBS]; simp) rfl
  have hq7 : ∀ X, heldB X BS → X.cell? ⟨w.heap.size, 7, none⟩ = some (.string ⟨st1.toArray⟩) := fun X hx => heldB_get (vs := [.int .i64 k1, .int .i64 q1, .bool on1, .string ⟨c1.toArray⟩, .int .i64 sh1, .int .i64 pr1, .int .i64 si1, .string ⟨st1.toArray⟩, .int .u64 sum1, .slice va tt1.length ca]) hx (by rw [hBS]; simp) rfl
  have hq8 : ∀ X, heldB X BS → X.cell? ⟨w.heap.size, 8, none⟩ = some (.int .u64 sum1) := fun X hx => heldB_get (vs := [.int .i64 k1, .int .i64 q1, .bool on1, .string ⟨c1.toArray⟩, .int .i64 sh1, .int .i64 pr1, .int .i64 si1, .string ⟨st1.toArray⟩, .int .u64 sum1, .slice va tt1.length ca]) hx (by rw [hBS]; simp) rfl
  have hq9 : ∀ X, heldB X BS → X.cell? ⟨w.heap.size, 9, none⟩ = some (.slice va tt1.length ca) := fun X hx => heldB_get (vs := [.int .i64 k1, .int .i64 q1, .bool on1, .string ⟨c1.toArray⟩, .int .i64 sh1, .int .i64 pr1, .int .i64 si1, .string ⟨st1.toArray⟩, .int .u64 sum1, .slice va tt1.length ca]) hx (by rw [hBS]; simp) rfl
  have hq10 : ∀ X, heldB X BS → X.cell? ⟨w.heap.size + 1, 0, none⟩ = some (.int .i64 k2) := fun X hx => heldB_get (vs := [.int .i64 k2, .int .i64 q2, .bool on2, .string ⟨c2.toArray⟩, .int .i64 sh2, .int .i64 pr2, .int .i64 si2, .string ⟨st2.toArray⟩, .int .u64 sum2, .slice vb tt2.length cb]) hx (by rw [hBS]; simp) rfl
  have hq11 : ∀ X, heldB X BS → X.cell? ⟨w.heap.size + 1, 1, none⟩ = some (.int .i64 q2) := fun X hx => heldB_get (vs := [.int .i64 k2, .int .i64 q2, .bool on2, .string ⟨c2.toArray⟩, .int .i64 sh2, .int .i64 pr2, .int .i64 si2, .string ⟨st2.toArray⟩, .int .u64 sum2, .slice vb tt2.length cb]) hx (by rw [hBS]; simp) rfl
  have hq12 : ∀ X, heldB X BS → X.cell? ⟨w.heap.size + 1, 2, none⟩ = some (.bool on2) := fun X hx => heldB_get (vs := [.int .i64 k2, .int .i64 q2, .bool on2, .string ⟨c2.toArray⟩, .int .i64 sh2, .int .i64 pr2, .int .i64 si2, .string ⟨st2.toArray⟩, .int .u64 sum2, .slice vb tt2.length cb]) hx (by rw [hBS]; simp) rfl
  have hq13 : ∀ X, heldB X BS → X.cell? ⟨w.heap.size + 1, 3, none⟩ = some (.string ⟨c2.toArray⟩) := fun X hx => heldB_get (vs := [.int .i64 k2, .int .i64 q2, .bool on2, .string ⟨c2.toArray⟩, .int .i64 sh2, .int .i64 pr2, .int .i64 si2, .string ⟨st2.toArray⟩, .int .u64 sum2, .slice vb tt2.length cb]) hx (by rw [hBS]; simp) rfl
  have hq14 : ∀ X, heldB X BS → X.cell? ⟨w.heap.size + 1, 4, none⟩ = some (.int .i64 sh2) := fun X hx => heldB_get (vs := [.int .i64 k2, .int .i64 q2, .bool on2, .string ⟨c2.toArray⟩, .int .i64 sh2, .int .i64 pr2, .int .i64 si2, .string ⟨st2.toArray⟩, .int .u64 sum2, .slice vb tt2.length cb]) hx (by rw [hBS]; simp) rfl
  have hq15 : ∀ X, heldB X BS → X.cell? ⟨w.heap.size + 1, 5, none⟩ = some (.int .i64 pr2) := fun X hx => heldB_get (vs := [.int .i64 k2, .int .i64 q2, .bool on2, .string ⟨c2.toArray⟩, .int .i64 sh2, .int .i64 pr2, .int .i64 si2, .string ⟨st2.toArray⟩, .int .u64 sum2, .slice vb tt2.length cb]) hx (by rw [hBS]; simp) rfl
  have hq16 : ∀ X, heldB X BS → X.cell? ⟨w.heap.size + 1, 6, none⟩ = some (.int .i64 si2) := fun X hx => heldB_get (vs := [.int .i64 k2, .int .i64 q2, .bool on2, .string ⟨c2.toArray⟩, .int .i64 sh2, .int .i64 pr2, .int .i64 si2, .string ⟨st2.toArray⟩, .int .u64 sum2, .slice vb tt2.length cb]) hx (by rw [hBS]; simp) rfl
  have hq17 : ∀ X, heldB X BS → X.cell? ⟨w.heap.size + 1, 7, none⟩ = some (.string ⟨st2.toArray⟩) := fun X hx => heldB_get (vs := [.int .i64 k2, .int .i64 q2, .bool on2, .string ⟨c2.toArray⟩, .int .i64 sh2, .int .i64 pr2, .int .i64 si2, .string ⟨st2.toArray⟩, .int .u64 sum2, .slice vb tt2.length cb]) hx (by rw [hBS]; simp) rfl
  have hq18 : ∀ X, heldB X BS → X.cell? ⟨w.heap.size + 1, 8, none⟩ = some (.int .u64 sum2) := fun X hx => heldB_get (vs := [.int .i64 k2, .int .i64 q2, .bool on2, .string ⟨c2.toArray⟩, .int .i64 sh2, .int .i64 pr2, .int .i64 si2, .string ⟨st2.toArray⟩, .int .u64 sum2, .slice vb tt2.length cb]) hx (by rw [hBS]; simp) rfl
  have hq19 : ∀ X, heldB X BS → X.cell? ⟨w.heap.size + 1, 9, none⟩ = some (.slice vb tt2.length cb) := fun X hx => heldB_get (vs := [.int .i64 k2, .int .i64 q2, .bool on2, .string ⟨c2.toArray⟩, .int .i64 sh2, .int .i64 pr2, .int .i64 si2, .string ⟨st2.toArray⟩, .int .u64 sum2, .slice vb tt2.length cb]) hx (by rw [hBS]; simp) rfl
  clear hBS
  have K0 : Hid (Below w6.heap.size w6 w6.drew) := Lib.hid (Below.refl _ _).drew
  refine wp_region_held_drew (S := (fun X => heldB X BS)) (by kernel_rfl) ?_ (fun hHeld => ?_)
  · exact heldB_up K0.out D0.out
  generalize w6.drew = z0 at K0 hHeld ⊢
  refine wpAnyH_take (i := 0) (oi := { dst := some 28, op := Op.load 27 (Operand.tmp 2), type := 27, pos := "law.go:32", after := #[], guard := none }) (v := ?_) rfl (by as_aux_lemma => kernel_rfl) (by as_aux_lemma => kernel_rfl) (by as_aux_lemma => kernel_rfl) (fun _ _ _ h => h) (Or.inl ⟨by rfl, ?_⟩) (by assumption) ?_
  rotate_left
  · intro w' hSw
    try dsimp only at hSw
    go_simp
    try with_reducible rfl
  try simp only [Act.put, List.setIfInBounds_toArray, List.set_cons_zero, List.set_cons_succ]
  refine wpAnyH_take (i := 2) (oi := { dst := some 30, op := Op.load 27 (Operand.tmp 2), type := 27, pos := "law.go:32", after := #[], guard := none }) (v := ?_) rfl (by as_aux_lemma => kernel_rfl) (by as_aux_lemma => kernel_rfl) (by as_aux_lemma => kernel_rfl) (fun _ _ _ h => h) (Or.inl ⟨by rfl, ?_⟩) (by assumption) ?_
  rotate_left
  · intro w' hSw
    try dsimp only at hSw
    go_simp
    try with_reducible rfl
  try simp only [Act.put, List.setIfInBounds_toArray, List.set_cons_zero, List.set_cons_succ]
  refine wpAnyH_ready (rs := [1]) (by as_aux_lemma => kernel_rfl) (by simp) ?_
  refine AllReadyH.cons (o := { dst := some 29, op := Op.call { callee := Callee.value (Operand.func 14), args := #[Operand.tmp 28], argTypes := #[27] }, type := 4, pos := "law.go:32", after := #[{ on := 0, ground := Ground.data }], guard := none }) rfl (fun Kx hK => ?_) AllReadyH.nil
  go_simp
  refine (frmay_eqF (VA.out.later (K0.out)) HSA.out n1 n2 HM).mono ?_
  rintro e z1001 ⟨rfl, bz1001⟩
  have K1001 := Lib.hid (below2Z K0.out bz1001)
  have D1001 := Lib.hid (heldB_up K1001.out D0.out)
  clear bz1001
  go_wp2_with fail
  refine hK.out _ _ ?_ (fun hHeld2 => ?_)
  · exact D1001.out
  clear hK Kx hHeld
  have hHeld := hHeld2
  clear hHeld2
  try simp only [Act.put, List.setIfInBounds_toArray, List.set_cons_zero, List.set_cons_succ]
  refine wpAnyH_ready (rs := [3]) (by as_aux_lemma => kernel_rfl) (by simp) ?_
  refine AllReadyH.cons (o := { dst := some 31, op := Op.call { callee := Callee.value (Operand.func 15), args := #[Operand.tmp 30], argTypes := #[27] }, type := 4, pos := "law.go:32", after := #[{ on := 2, ground := Ground.data }, { on := 1, ground := Ground.chain }], guard := none }) rfl (fun Kx hK => ?_) AllReadyH.nil
  go_simp
  refine (rfrmay_any (VA.out.later (K1001.out)) HSA.out n1 n2 HM).mono ?_
  rintro e z1002 ⟨rfl, bz1002⟩
  have K1002 := Lib.hid (below2Z K1001.out bz1002)
  have D1002 := Lib.hid (heldB_up K1002.out D0.out)
  clear bz1002
  go_wp2_with fail
  refine hK.out _ _ ?_ (fun hHeld2 => ?_)
  · exact D1002.out
  clear hK Kx hHeld
  have hHeld := hHeld2
  clear hHeld2
  try simp only [Act.put, List.setIfInBounds_toArray, List.set_cons_zero, List.set_cons_succ]
  refine wpAnyH_take (i := 4) (oi := { dst := some 32, op := Op.binOp BinOp.eql 4 (Operand.tmp 29) (Operand.tmp 31) 4, type := 4, pos := "law.go:32", after := #[{ on := 1, ground := Ground.data }, { on := 3, ground := Ground.data }], guard := none }) (v := ?_) rfl (by as_aux_lemma => kernel_rfl) (by as_aux_lemma => kernel_rfl) (by as_aux_lemma => kernel_rfl) (fun _ _ _ h => h) (Or.inl ⟨by rfl, ?_⟩) (by assumption) ?_
  rotate_left
  · intro w' hSw
    try dsimp only at hSw
    go_simp
    try with_reducible rfl
  try simp only [Act.put, List.setIfInBounds_toArray, List.set_cons_zero, List.set_cons_succ]
  refine wpAnyH_take (i := 5) (oi := { dst := some 33, op := Op.move (Operand.tmp 32), type := 4, pos := "law.go:32", after := #[{ on := 4, ground := Ground.data }, { on := 3, ground := Ground.chain }], guard := none }) (v := ?_) rfl (by as_aux_lemma => kernel_rfl) (by as_aux_lemma => kernel_rfl) (by as_aux_lemma => kernel_rfl) (fun _ _ _ h => h) (Or.inl ⟨by rfl, ?_⟩) (by assumption) ?_
  rotate_left
  · intro w' hSw
    try dsimp only at hSw
    go_simp
    try with_reducible rfl
  try simp only [Act.put, List.setIfInBounds_toArray, List.set_cons_zero, List.set_cons_succ]
  refine wpAnyH_take (i := 6) (oi := { dst := some 34, op := Op.move (Operand.tmp 5), type := 9, pos := "law.go:32", after := #[{ on := 5, ground := Ground.guard }], guard := some (5, true) }) (v := ?_) rfl (by as_aux_lemma => kernel_rfl) (by as_aux_lemma => kernel_rfl) (by as_aux_lemma => kernel_rfl) (fun _ _ _ h => h) (Or.inl ⟨by rfl, ?_⟩) (by assumption) ?_
  rotate_left
  · intro w' hSw
    try dsimp only at hSw
    go_simp
    try with_reducible rfl
  try simp only [Act.put, List.setIfInBounds_toArray, List.set_cons_zero, List.set_cons_succ]
  refine wpAnyH_take (i := 7) (oi := { dst := some 35, op := Op.move (Operand.tmp 7), type := 9, pos := "law.go:32", after := #[{ on := 5, ground := Ground.guard }], guard := some (5, true) }) (v := ?_) rfl (by as_aux_lemma => kernel_rfl) (by as_aux_lemma => kernel_rfl) (by as_aux_lemma => kernel_rfl) (fun _ _ _ h => h) (Or.inl ⟨by rfl, ?_⟩) (by assumption) ?_
  rotate_left
  · intro w' hSw
    try dsimp only at hSw
    go_simp
    try with_reducible rfl
  try simp only [Act.put, List.setIfInBounds_toArray, List.set_cons_zero, List.set_cons_succ]
  refine wpAnyH_take (i := 8) (oi := { dst := some 36, op := Op.binOp BinOp.eql 9 (Operand.tmp 34) (Operand.tmp 35) 9, type := 4, pos := "law.go:32", after := #[{ on := 6, ground := Ground.data }, { on := 7, ground := Ground.data }, { on := 5, ground := Ground.guard }], guard := some (5, true) }) (v := ?_) rfl (by as_aux_lemma => kernel_rfl) (by as_aux_lemma => kernel_rfl) (by as_aux_lemma => kernel_rfl) (fun _ _ _ h => h) (Or.inl ⟨by rfl, ?_⟩) (by assumption) ?_
  rotate_left
  · intro w' hSw
    try dsimp only at hSw
    go_simp
    try with_reducible rfl
  try simp only [Act.put, List.setIfInBounds_toArray, List.set_cons_zero, List.set_cons_succ]
  refine wpAnyH_take (i := 9) (oi := { dst := some 37, op := Op.pick (Operand.tmp 33) (Operand.tmp 36) (Operand.const (Value.bool false)), type := 4, pos := "law.go:32", after := #[{ on := 5, ground := Ground.data }, { on := 8, ground := Ground.data }], guard := none }) (v := ?_) rfl (by as_aux_lemma => kernel_rfl) (by as_aux_lemma => kernel_rfl) (by as_aux_lemma => kernel_rfl) (fun _ _ _ h => h) (Or.inl ⟨by rfl, ?_⟩) (by assumption) ?_
  rotate_left
  · intro w' hSw
    try dsimp only at hSw
    go_simp
    try with_reducible rfl
  try simp only [Act.put, List.setIfInBounds_toArray, List.set_cons_zero, List.set_cons_succ]
  refine wpAnyH_take (i := 10) (oi := { dst := some 38, op := Op.move (Operand.tmp 37), type := 4, pos := "law.go:32", after := #[{ on := 9, ground := Ground.data }, { on := 5, ground := Ground.chain }], guard := none }) (v := ?_) rfl (by as_aux_lemma => kernel_rfl) (by as_aux_lemma => kernel_rfl) (by as_aux_lemma => kernel_rfl) (fun _ _ _ h => h) (Or.inl ⟨by rfl, ?_⟩) (by assumption) ?_
  rotate_left
  · intro w' hSw
    try dsimp only at hSw
    go_simp
    try with_reducible rfl
  try simp only [Act.put, List.setIfInBounds_toArray, List.set_cons_zero, List.set_cons_succ]
  refine wpAnyH_take (i := 11) (oi := { dst := some 39, op := Op.move (Operand.tmp 6), type := 30, pos := "law.go:32", after := #[{ on := 10, ground := Ground.guard }], guard := some (10, true) }) (v := ?_) rfl (by as_aux_lemma => kernel_rfl) (by as_aux_lemma => kernel_rfl) (by as_aux_lemma => kernel_rfl) (fun _ _ _ h => h) (Or.inl ⟨by rfl, ?_⟩) (by assumption) ?_
  rotate_left
  · intro w' hSw
    try dsimp only at hSw
    go_simp
    try with_reducible rfl
  try simp only [Act.put, List.setIfInBounds_toArray, List.set_cons_zero, List.set_cons_succ]
  refine wpAnyH_take (i := 12) (oi := { dst := some 40, op := Op.move (Operand.tmp 8), type := 30, pos := "law.go:32", after := #[{ on := 10, ground := Ground.guard }], guard := some (10, true) }) (v := ?_) rfl (by as_aux_lemma => kernel_rfl) (by as_aux_lemma => kernel_rfl) (by as_aux_lemma => kernel_rfl) (fun _ _ _ h => h) (Or.inl ⟨by rfl, ?_⟩) (by assumption) ?_
  rotate_left
  · intro w' hSw
    try dsimp only at hSw
    go_simp
    try with_reducible rfl
  try simp only [Act.put, List.setIfInBounds_toArray, List.set_cons_zero, List.set_cons_succ]
  refine wpAnyH_take (i := 13) (oi := { dst := some 41, op := Op.binOp BinOp.eql 30 (Operand.tmp 39) (Operand.tmp 40) 30, type := 4, pos := "law.go:32", after := #[{ on := 11, ground := Ground.data }, { on := 12, ground := Ground.data }, { on := 10, ground := Ground.guard }], guard := some (10, true) }) (v := ?_) rfl (by as_aux_lemma => kernel_rfl) (by as_aux_lemma => kernel_rfl) (by as_aux_lemma => kernel_rfl) (fun _ _ _ h => h) (Or.inl ⟨by rfl, ?_⟩) (by assumption) ?_
  rotate_left
  · intro w' hSw
    try dsimp only at hSw
    go_simp
    try with_reducible rfl
  try simp only [Act.put, List.setIfInBounds_toArray, List.set_cons_zero, List.set_cons_succ]
  refine wpAnyH_take (i := 14) (oi := { dst := some 42, op := Op.pick (Operand.tmp 38) (Operand.tmp 41) (Operand.const (Value.bool false)), type := 4, pos := "law.go:32", after := #[{ on := 10, ground := Ground.data }, { on := 13, ground := Ground.data }], guard := none }) (v := ?_) rfl (by as_aux_lemma => kernel_rfl) (by as_aux_lemma => kernel_rfl) (by as_aux_lemma => kernel_rfl) (fun _ _ _ h => h) (Or.inl ⟨by rfl, ?_⟩) (by assumption) ?_
  rotate_left
  · intro w' hSw
    try dsimp only at hSw
    go_simp
    try with_reducible rfl
  try simp only [Act.put, List.setIfInBounds_toArray, List.set_cons_zero, List.set_cons_succ]
  refine wpAnyH_take (i := 15) (oi := { dst := some 43, op := Op.move (Operand.tmp 42), type := 4, pos := "law.go:32", after := #[{ on := 14, ground := Ground.data }, { on := 10, ground := Ground.chain }], guard := none }) (v := ?_) rfl (by as_aux_lemma => kernel_rfl) (by as_aux_lemma => kernel_rfl) (by as_aux_lemma => kernel_rfl) (fun _ _ _ h => h) (Or.inl ⟨by rfl, ?_⟩) (by assumption) ?_
  rotate_left
  · intro w' hSw
    try dsimp only at hSw
    go_simp
    try with_reducible rfl
  try simp only [Act.put, List.setIfInBounds_toArray, List.set_cons_zero, List.set_cons_succ]
  refine wpAnyH_take (i := 16) (oi := { dst := some 44, op := Op.load 27 (Operand.tmp 2), type := 27, pos := "law.go:32", after := #[{ on := 15, ground := Ground.guard }], guard := some (15, true) }) (v := ?_) rfl (by as_aux_lemma => kernel_rfl) (by as_aux_lemma => kernel_rfl) (by as_aux_lemma => kernel_rfl) (fun _ _ _ h => h) (Or.inl ⟨by rfl, ?_⟩) (by assumption) ?_
  rotate_left
  · intro w' hSw
    try dsimp only at hSw
    go_simp
    try with_reducible rfl
  try simp only [Act.put, List.setIfInBounds_toArray, List.set_cons_zero, List.set_cons_succ]
  refine wpAnyH_take (i := 17) (oi := { dst := some 45, op := Op.load 27 (Operand.tmp 3), type := 27, pos := "law.go:32", after := #[{ on := 15, ground := Ground.guard }], guard := some (15, true) }) (v := ?_) rfl (by as_aux_lemma => kernel_rfl) (by as_aux_lemma => kernel_rfl) (by as_aux_lemma => kernel_rfl) (fun _ _ _ h => h) (Or.inl ⟨by rfl, ?_⟩) (by assumption) ?_
  rotate_left
  · intro w' hSw
    try dsimp only at hSw
    go_simp
    try with_reducible rfl
  try simp only [Act.put, List.setIfInBounds_toArray, List.set_cons_zero, List.set_cons_succ]
  refine wpAnyH_take (i := 19) (oi := { dst := some 47, op := Op.load 27 (Operand.tmp 2), type := 27, pos := "law.go:32", after := #[{ on := 15, ground := Ground.guard }], guard := some (15, true) }) (v := ?_) rfl (by as_aux_lemma => kernel_rfl) (by as_aux_lemma => kernel_rfl) (by as_aux_lemma => kernel_rfl) (fun _ _ _ h => h) (Or.inl ⟨by rfl, ?_⟩) (by assumption) ?_
  rotate_left
  · intro w' hSw
    try dsimp only at hSw
    go_simp
    try with_reducible rfl
  try simp only [Act.put, List.setIfInBounds_toArray, List.set_cons_zero, List.set_cons_succ]
  refine wpAnyH_take (i := 20) (oi := { dst := some 48, op := Op.load 27 (Operand.tmp 3), type := 27, pos := "law.go:32", after := #[{ on := 15, ground := Ground.guard }], guard := some (15, true) }) (v := ?_) rfl (by as_aux_lemma => kernel_rfl) (by as_aux_lemma => kernel_rfl) (by as_aux_lemma => kernel_rfl) (fun _ _ _ h => h) (Or.inl ⟨by rfl, ?_⟩) (by assumption) ?_
  rotate_left
  · intro w' hSw
    try dsimp only at hSw
    go_simp
    try with_reducible rfl
  try simp only [Act.put, List.setIfInBounds_toArray, List.set_cons_zero, List.set_cons_succ]
  refine wpAnyH_ready (rs := [18]) (by as_aux_lemma => kernel_rfl) (by simp) ?_
  refine AllReadyH.cons (o := { dst := some 46, op := Op.call { callee := Callee.value (Operand.func 16), args := #[Operand.tmp 44, Operand.tmp 45], argTypes := #[27, 27] }, type := 4, pos := "law.go:32", after := #[{ on := 16, ground := Ground.data }, { on := 17, ground := Ground.data }, { on := 15, ground := Ground.chain }, { on := 15, ground := Ground.guard }], guard := some (15, true) }) rfl (fun Kx hK => ?_) AllReadyH.nil
  go_simp
  refine (frsame_eqF (VA.out.later (K1002.out)) (VB.out.later (K1002.out)) HQ).mono ?_
  rintro e z1003 ⟨rfl, bz1003⟩
  have K1003 := Lib.hid (below2Z K1002.out bz1003)
  have D1003 := Lib.hid (heldB_up K1003.out D0.out)
  clear bz1003
  go_wp2_with fail
  refine hK.out _ _ ?_ (fun hHeld2 => ?_)
  · exact D1003.out
  clear hK Kx hHeld
  have hHeld := hHeld2
  clear hHeld2
  try simp only [Act.put, List.setIfInBounds_toArray, List.set_cons_zero, List.set_cons_succ]
  refine wpAnyH_ready (rs := [21]) (by as_aux_lemma => kernel_rfl) (by simp) ?_
  refine AllReadyH.cons (o := { dst := some 49, op := Op.call { callee := Callee.value (Operand.func 17), args := #[Operand.tmp 47, Operand.tmp 48], argTypes := #[27, 27] }, type := 4, pos := "law.go:32", after := #[{ on := 19, ground := Ground.data }, { on := 20, ground := Ground.data }, { on := 18, ground := Ground.chain }, { on := 15, ground := Ground.guard }], guard := some (15, true) }) rfl (fun Kx hK => ?_) AllReadyH.nil
  go_simp
  refine (rfrsame_eqW (VA.out.later (K1003.out)) (VB.out.later (K1003.out)) HQ).mono ?_
  rintro e z1004 ⟨rfl, bz1004⟩
  have K1004 := Lib.hid (below2Z K1003.out bz1004)
  have D1004 := Lib.hid (heldB_up K1004.out D0.out)
  clear bz1004
  go_wp2_with fail
  refine hK.out _ _ ?_ (fun hHeld2 => ?_)
  · exact D1004.out
  clear hK Kx hHeld
  have hHeld := hHeld2
  clear hHeld2
  try simp only [Act.put, List.setIfInBounds_toArray, List.set_cons_zero, List.set_cons_succ]
  refine wpAnyH_take (i := 22) (oi := { dst := some 50, op := Op.binOp BinOp.eql 4 (Operand.tmp 46) (Operand.tmp 49) 4, type := 4, pos := "law.go:32", after := #[{ on := 18, ground := Ground.data }, { on := 21, ground := Ground.data }, { on := 15, ground := Ground.guard }], guard := some (15, true) }) (v := ?_) rfl (by as_aux_lemma => kernel_rfl) (by as_aux_lemma => kernel_rfl) (by as_aux_lemma => kernel_rfl) (fun _ _ _ h => h) (Or.inl ⟨by rfl, ?_⟩) (by assumption) ?_
  rotate_left
  · intro w' hSw
    try dsimp only at hSw
    go_simp
    try with_reducible rfl
  try simp only [Act.put, List.setIfInBounds_toArray, List.set_cons_zero, List.set_cons_succ]
  refine wpAnyH_take (i := 23) (oi := { dst := some 51, op := Op.pick (Operand.tmp 43) (Operand.tmp 50) (Operand.const (Value.bool false)), type := 4, pos := "law.go:32", after := #[{ on := 15, ground := Ground.data }, { on := 22, ground := Ground.data }], guard := none }) (v := ?_) rfl (by as_aux_lemma => kernel_rfl) (by as_aux_lemma => kernel_rfl) (by as_aux_lemma => kernel_rfl) (fun _ _ _ h => h) (Or.inl ⟨by rfl, ?_⟩) (by assumption) ?_
  rotate_left
  · intro w' hSw
    try dsimp only at hSw
    go_simp
    try with_reducible rfl
  try simp only [Act.put, List.setIfInBounds_toArray, List.set_cons_zero, List.set_cons_succ]
  refine wpAnyH_take (i := 24) (oi := { dst := some 52, op := Op.move (Operand.tmp 51), type := 4, pos := "law.go:32", after := #[{ on := 23, ground := Ground.data }, { on := 21, ground := Ground.chain }], guard := none }) (v := ?_) rfl (by as_aux_lemma => kernel_rfl) (by as_aux_lemma => kernel_rfl) (by as_aux_lemma => kernel_rfl) (fun _ _ _ h => h) (Or.inl ⟨by rfl, ?_⟩) (by assumption) ?_
  rotate_left
  · intro w' hSw
    try dsimp only at hSw
    go_simp
    try with_reducible rfl
  try simp only [Act.put, List.setIfInBounds_toArray, List.set_cons_zero, List.set_cons_succ]
  refine wpAnyH_ready (rs := [25]) (by as_aux_lemma => kernel_rfl) (by simp) ?_
  refine AllReadyH.cons (o := { dst := some 53, op := Op.call { callee := Callee.value (Operand.func 11), args := #[], argTypes := #[] }, type := 4, pos := "law.go:32", after := #[{ on := 24, ground := Ground.chain }, { on := 24, ground := Ground.guard }], guard := some (24, true) }) rfl (fun Kx hK => ?_) AllReadyH.nil
  go_simp
  refine (live6 _).mono ?_
  rintro e z1005 ⟨rfl, bz1005⟩
  have K1005 := Lib.hid (below2Z K1004.out bz1005)
  have D1005 := Lib.hid (heldB_up K1005.out D0.out)
  clear bz1005
  go_wp2_with fail
  refine hK.out _ _ ?_ (fun hHeld2 => ?_)
  · exact D1005.out
  clear hK Kx hHeld
  have hHeld := hHeld2
  clear hHeld2
  try simp only [Act.put, List.setIfInBounds_toArray, List.set_cons_zero, List.set_cons_succ]
  refine wpAnyH_take (i := 26) (oi := { dst := some 54, op := Op.pick (Operand.tmp 52) (Operand.tmp 53) (Operand.const (Value.bool false)), type := 4, pos := "law.go:32", after := #[{ on := 24, ground := Ground.data }, { on := 25, ground := Ground.data }], guard := none }) (v := ?_) rfl (by as_aux_lemma => kernel_rfl) (by as_aux_lemma => kernel_rfl) (by as_aux_lemma => kernel_rfl) (fun _ _ _ h => h) (Or.inl ⟨by rfl, ?_⟩) (by assumption) ?_
  rotate_left
  · intro w' hSw
    try dsimp only at hSw
    go_simp
    try with_reducible rfl
  try simp only [Act.put, List.setIfInBounds_toArray, List.set_cons_zero, List.set_cons_succ]
  refine wpAnyH_take (i := 27) (oi := { dst := some 4, op := Op.assign (Operand.tmp 54), type := 4, pos := "law.go:32", after := #[{ on := 26, ground := Ground.data }, { on := 25, ground := Ground.chain }, { on := 0, ground := Ground.phase }, { on := 1, ground := Ground.phase }, { on := 2, ground := Ground.phase }, { on := 3, ground := Ground.phase }, { on := 4, ground := Ground.phase }, { on := 5, ground := Ground.phase }, { on := 6, ground := Ground.phase }, { on := 7, ground := Ground.phase }, { on := 8, ground := Ground.phase }, { on := 9, ground := Ground.phase }, { on := 10, ground := Ground.phase }, { on := 11, ground := Ground.phase }, { on := 12, ground := Ground.phase }, { on := 13, ground := Ground.phase }, { on := 14, ground := Ground.phase }, { on := 15, ground := Ground.phase }, { on := 16, ground := Ground.phase }, { on := 17, ground := Ground.phase }, { on := 18, ground := Ground.phase }, { on := 19, ground := Ground.phase }, { on := 20, ground := Ground.phase }, { on := 21, ground := Ground.phase }, { on := 22, ground := Ground.phase }, { on := 23, ground := Ground.phase }, { on := 24, ground := Ground.phase }, { on := 25, ground := Ground.phase }, { on := 26, ground := Ground.phase }], guard := none }) (v := ?_) rfl (by as_aux_lemma => kernel_rfl) (by as_aux_lemma => kernel_rfl) (by as_aux_lemma => kernel_rfl) (fun _ _ _ h => h) (Or.inl ⟨by rfl, ?_⟩) (by assumption) ?_
  rotate_left
  · intro w' hSw
    try dsimp only at hSw
    go_simp
    try with_reducible rfl
  try simp only [Act.put, List.setIfInBounds_toArray, List.set_cons_zero, List.set_cons_succ]
  refine wpAnyH_done (by kernel_rfl) ?_ _
  replace HB := Lib.hid (below2Z HB.out (K1005.out))
  go_wp2_with fail
  go_ret
  exact ⟨rfl, HB.out⟩

theorem walkFrameWrites {w : World} {v1 v2 : Value} {k1 q1 sh1 pr1 si1 : Int} {on1 : Bool} {c1 st1 : List UInt8} {sum1 : Nat} {tt1 : List Row} {k2 q2 sh2 pr2 si2 : Int} {on2 : Bool} {c2 st2 : List UInt8} {sum2 : Nat} {tt2 : List Row} (hv1 : Tab w v1 tt1) (hc1 : c1.length ≤ maxLen) (hs1 : st1.length ≤ maxLen) (hu1 : sum1 < 18446744073709551616) (hv2 : Tab w v2 tt2) (hc2 : c2.length ≤ maxLen) (hs2 : st2.length ≤ maxLen) (_ : sum2 < 18446744073709551616) :
    Calls Try.prog 3 #[.agg #[.int .i64 k1, .int .i64 q1, .bool on1, .string ⟨c1.toArray⟩, .int .i64 sh1, .int .i64 pr1, .int .i64 si1, .string ⟨st1.toArray⟩, .int .u64 sum1, v1], .agg #[.int .i64 k2, .int .i64 q2, .bool on2, .string ⟨c2.toArray⟩, .int .i64 sh2, .int .i64 pr2, .int .i64 si2, .string ⟨st2.toArray⟩, .int .u64 sum2, v2]] w fun e w' => e = .returned (.bool true) ∧ Below w.heap.size w w' := by
  cases h1 : fewF ⟨k1, q1, on1, c1, ⟨sh1, pr1, si1, st1⟩, sum1, tt1⟩ with
  | false => exact fww_1 hv1 hv2 hc1 hs1 (Lib.hid h1)
  | true =>
    cases h2 : fewF ⟨k2, q2, on2, c2, ⟨sh2, pr2, si2, st2⟩, sum2, tt2⟩ with
    | false => exact fww_2 hv1 hv2 hc1 hs1 hc2 hs2 (Lib.hid h1) (Lib.hid h2)
    | true =>
      obtain ⟨l, er, he⟩ : ∃ l er, frEnc ⟨k1, q1, on1, c1, ⟨sh1, pr1, si1, st1⟩, sum1, tt1⟩ = (l, er) := ⟨_, _, rfl⟩
      exact fww_3 hv1 hv2 hc1 hs1 hc2 hs2 hu1 (Lib.hid h1) (Lib.hid h2) rfl rfl he

end Go.Proofs.Ytohfhphiofobcaa

end

section

/-
  THE FRAME OF THE PROOF OF FrameWrites: for every input the law returns true, and each argument reads behind the call as it read before. No condition.
-/
namespace Go.Proofs.Ytohfhphiofobcaa.frameWrites
open Go.ChangeShapes Go.WideShapes Go.ChangeAt Go.RowKit
open Go.ChangeMaps (open_string shut_string)
set_option linter.unusedVariables false

theorem own : ownKnob Try.prog.godebug = none := by kernel_rfl
theorem laidOut : laidOutB Try.prog = true := by kernel_rfl

set_option maxRecDepth 100000 in
theorem lifted (os : Os) (started : os.Started) (H : Type) (enc : TypeId × Value → H) :
    ReturnsInHanded {} Try.checked os 3 .any (Rows.frameWritesSpec.pre6 enc Try.prog Try.f3 Rows.frameWritesRow.domain false) (Rows.frameWritesSpec.post enc Try.prog Try.f3 false true false false) := by
  refine returnsInHanded_of_change (C := Try.checked) own started (by kernel_rfl) Try.func3
    (ChangeSpec.witness6 (enc := enc) (C := Try.checked) false ⟨#[], #[.agg #[.int .i64 0, .int .i64 0, .bool false, .string ByteArray.empty, .int .i64 0, .int .i64 0, .int .i64 0, .string ByteArray.empty, .int .u64 0, .slice none 0 0], .agg #[.int .i64 0, .int .i64 0, .bool false, .string ByteArray.empty, .int .i64 0, .int .i64 0, .int .i64 0, .string ByteArray.empty, .int .u64 0, .slice none 0 0]], []⟩ 8 (by kernel_rfl) (by kernel_rfl) (by kernel_rfl) (by kernel_rfl)) ?_
  intro W base args ds gs before hval0 hW hcnd _
  have hval : ∀ (j : Nat) t v, Try.f3.params[j]? = some t → args[j]? = some v → Value.okWide Try.prog W .any base t v := hval0
  have hW' := hW
  obtain ⟨p, q, hA0, hV, rfl, hfz, hnd⟩ := hW
  have hA : DataW.TrodAll enc Try.prog W 0 (fun _ => true) true Try.f3.params.toList args.toList ds p := hA0
  rw [Try.params3] at hA hval
  obtain ⟨v0, vs0, d0, ds0, p0, q0, hargs, rfl, rfl, h0, r0⟩ := trodAll_cons hA
  obtain ⟨v1, vs1, d1, ds1, p1, q1, rfl, rfl, rfl, h1, r1⟩ := trodAll_cons r0
  obtain ⟨rfl, rfl, rfl⟩ := trodAll_nil r1
  obtain rfl : args = #[v0, v1] := by cases args; simp_all
  obtain ⟨rfl, rfl⟩ := trodVars_none hV
  have k0 := h0
  have lt0 : ∀ x ∈ p0, x.block < W.heap.size := by obtain ⟨m, hm⟩ := k0; exact DataW.trod_lt m _ _ _ hm
  obtain ⟨f0, t0, rfl, c0, s0, u0, w0⟩ := open_frame (hval 0 27 v0 rfl rfl) h0
  have k1 := h1
  have lt1 : ∀ x ∈ p1, x.block < W.heap.size := by obtain ⟨m, hm⟩ := k1; exact DataW.trod_lt m _ _ _ hm
  obtain ⟨f1, t1, rfl, c1, s1, u1, w1⟩ := open_frame (hval 1 27 v1 rfl rfl) h1
  clear hA0 hval0
  refine (walkFrameWrites (w := W) w0 c0 s0 u0 w1 c1 s1 u1).mono fun e W' ⟨he, bel⟩ => ?_
  subst he
  exact ⟨_, rfl, _, _, _, [], _, [], hW', trodAll_mk1 (shut_bool Try.underlying4 _), (trodAll_cons_mk (Below.trod laidOut (by kernel_rfl) (of_decide_eq_true (by kernel_rfl)) k0 bel lt0) (trodAll_cons_mk (Below.trod laidOut (by kernel_rfl) (of_decide_eq_true (by kernel_rfl)) k1 bel lt1) trodAll_mk0)), rfl, bel.frame _, fun h => by cases h⟩

theorem over : Rows.frameWritesRow.holds Try.pinned (OpenSpec.ofChange Rows.frameWritesSpec) :=
  OpenClaim.holds_of_wide 3 Try.f3 rfl rfl rfl rfl rfl rfl rfl ⟨rfl, rfl, rfl, rfl, rfl⟩ rfl rfl rfl rfl rfl (by kernel_rfl) Try.func3 (by kernel_rfl)
    (of_decide_eq_true (by kernel_rfl)) (by unfold Func.isWrapper; first | (rw [if_pos (by decide +kernel)]; kernel_rfl) | (rw [if_neg (by decide +kernel)]; exact ⟨rfl, rfl⟩))
    (fun os started H enc _ => lifted os started H enc)

/-- THE STATEMENT. -/
theorem proved : Rows.FrameWritesSaid := over
#print axioms proved
end Go.Proofs.Ytohfhphiofobcaa.frameWrites

end
