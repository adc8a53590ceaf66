/-
  THE PROOF OF FrameSizes: for every input the law returns true, and each argument reads behind the call as it read before. No condition.
-/
import Derived.Test.YtohfhphiofobcaaS18
import Derived.Test.YtohfhphiofobcaaS21
import Derived.Test.YtohfhphiofobcaaS25
import Derived.Test.YtohfhphiofobcaaS08
import Derived.Test.YtohfhphiofobcaaRows
import Derived.ProofKit
import Derived.OpenShut
import Derived.ShutString
import Derived.ChangeOld
import Derived.SliceStrings
import Derived.Lib.SmallJoins

section

/-
  THE WALK OF FrameSizes.
-/
namespace Go.Proofs.Ytohfhphiofobcaa
open Go.RowKit

set_option maxHeartbeats 3200000 in
set_option maxRecDepth 100000 in
theorem fwz_1 {w : World} {v1 : Value} {k1 q1 sh1 pr1 si1 : Int} {on1 : Bool} {c1 st1 : List UInt8} {sum1 : Nat} {tt1 : List Row} (hv1 : Tab w v1 tt1) (hc1 : c1.length ≤ maxLen) (hs1 : st1.length ≤ maxLen) (HF1 : Hid (fewF ⟨k1, q1, on1, c1, ⟨sh1, pr1, si1, st1⟩, sum1, tt1⟩ = false)) :
    Calls Try.prog 8 #[.agg #[.int .i64 k1, .int .i64 q1, .bool on1, .string ⟨c1.toArray⟩, .int .i64 sh1, .int .i64 pr1, .int .i64 si1, .string ⟨st1.toArray⟩, .int .u64 sum1, v1]] w fun e w' => e = .returned (.bool true) ∧ Below w.heap.size w w' := by
  obtain ⟨va, ca, rfl, -⟩ := hv1.open'
  have b0 := bl_newZ w (.cells #[.int .i64 k1, .int .i64 q1, .bool on1, .string ⟨c1.toArray⟩, .int .i64 sh1, .int .i64 pr1, .int .i64 si1, .string ⟨st1.toArray⟩, .int .u64 sum1, .slice va tt1.length ca] 27)
  have HB := Lib.hid b0
  have VA := Lib.hid (hv1.later b0)
  have FA := newQ w (.cells #[.int .i64 k1, .int .i64 q1, .bool on1, .string ⟨c1.toArray⟩, .int .i64 sh1, .int .i64 pr1, .int .i64 si1, .string ⟨st1.toArray⟩, .int .u64 sum1, .slice va tt1.length ca] 27)
  replace FA := Lib.hid FA
  clear b0
  clear hv1
  go_enter Try.func8, Try.ntmps8
  obtain ⟨⟨FAc0, FAc1, FAc2, FAc3, FAc4, FAc5, FAc6, FAc7, FAc8, FAc9⟩, ⟨FAf0, FAf1, FAf2, FAf3, FAf4, FAf5, FAf6, FAf7, FAf8, FAf9⟩⟩ := blk10 FA.out
  go_wp2_with fail
  clear FAc0 FAc1 FAc2 FAc3 FAc4 FAc5 FAc6 FAc7 FAc8 FAc9 FAf0 FAf1 FAf2 FAf3 FAf4 FAf5 FAf6 FAf7 FAf8 FAf9
  refine (fewf_eq VA.out k1 q1 on1 c1 sh1 pr1 si1 st1 sum1 hc1 hs1 HF1).mono ?_
  rintro e w2 ⟨rfl, b2⟩
  replace FA := Lib.hid (upQ FA.out b2)
  replace VA := Lib.hid (VA.out.later b2)
  replace HB := Lib.hid (below2Z HB.out b2)
  clear b2
  go_wp2_with fail
  refine (live6 _).mono ?_
  rintro e w3 ⟨rfl, b3⟩
  replace FA := Lib.hid (upQ FA.out b3)
  replace VA := Lib.hid (VA.out.later b3)
  replace HB := Lib.hid (below2Z HB.out b3)
  clear b3
  go_wp2_with fail
  go_ret
  exact ⟨rfl, HB.out⟩

set_option maxHeartbeats 3200000 in
set_option maxRecDepth 100000 in
theorem fwz_2 {w : World} {v1 : Value} {k1 q1 sh1 pr1 si1 : Int} {on1 : Bool} {c1 st1 : List UInt8} {sum1 : Nat} {tt1 : List Row} (hv1 : Tab w v1 tt1) (hc1 : c1.length ≤ maxLen) (hs1 : st1.length ≤ maxLen) (hu1 : sum1 < 18446744073709551616) (HF1 : Hid (fewF ⟨k1, q1, on1, c1, ⟨sh1, pr1, si1, st1⟩, sum1, tt1⟩ = true)) (HEA : Hid (frEnc ⟨k1, q1, on1, c1, ⟨sh1, pr1, si1, st1⟩, sum1, tt1⟩ = ([], 1))) :
    Calls Try.prog 8 #[.agg #[.int .i64 k1, .int .i64 q1, .bool on1, .string ⟨c1.toArray⟩, .int .i64 sh1, .int .i64 pr1, .int .i64 si1, .string ⟨st1.toArray⟩, .int .u64 sum1, v1]] w fun e w' => e = .returned (.bool true) ∧ Below w.heap.size w w' := by
  obtain ⟨s1, n1, n2⟩ := fewF_get HF1.out
  simp only at s1 n1 n2
  have HSA := Lib.hid s1
  clear s1
  obtain ⟨va, ca, rfl, -⟩ := hv1.open'
  have b0 := bl_newZ w (.cells #[.int .i64 k1, .int .i64 q1, .bool on1, .string ⟨c1.toArray⟩, .int .i64 sh1, .int .i64 pr1, .int .i64 si1, .string ⟨st1.toArray⟩, .int .u64 sum1, .slice va tt1.length ca] 27)
  have HB := Lib.hid b0
  have VA := Lib.hid (hv1.later b0)
  have FA := newQ w (.cells #[.int .i64 k1, .int .i64 q1, .bool on1, .string ⟨c1.toArray⟩, .int .i64 sh1, .int .i64 pr1, .int .i64 si1, .string ⟨st1.toArray⟩, .int .u64 sum1, .slice va tt1.length ca] 27)
  replace FA := Lib.hid FA
  clear b0
  clear hv1
  go_enter Try.func8, Try.ntmps8
  obtain ⟨⟨FAc0, FAc1, FAc2, FAc3, FAc4, FAc5, FAc6, FAc7, FAc8, FAc9⟩, ⟨FAf0, FAf1, FAf2, FAf3, FAf4, FAf5, FAf6, FAf7, FAf8, FAf9⟩⟩ := blk10 FA.out
  go_wp2_with fail
  clear FAc0 FAc1 FAc2 FAc3 FAc4 FAc5 FAc6 FAc7 FAc8 FAc9 FAf0 FAf1 FAf2 FAf3 FAf4 FAf5 FAf6 FAf7 FAf8 FAf9
  refine (fewf_eq VA.out k1 q1 on1 c1 sh1 pr1 si1 st1 sum1 hc1 hs1 HF1).mono ?_
  rintro e w2 ⟨rfl, b2⟩
  replace FA := Lib.hid (upQ FA.out b2)
  replace VA := Lib.hid (VA.out.later b2)
  replace HB := Lib.hid (below2Z HB.out b2)
  clear b2
  obtain ⟨⟨FAc0, FAc1, FAc2, FAc3, FAc4, FAc5, FAc6, FAc7, FAc8, FAc9⟩, ⟨FAf0, FAf1, FAf2, FAf3, FAf4, FAf5, FAf6, FAf7, FAf8, FAf9⟩⟩ := blk10 FA.out
  go_wp2_with fail
  clear FAc0 FAc1 FAc2 FAc3 FAc4 FAc5 FAc6 FAc7 FAc8 FAc9 FAf0 FAf1 FAf2 FAf3 FAf4 FAf5 FAf6 FAf7 FAf8 FAf9
  refine (frenc_any VA.out HSA.out k1 q1 on1 c1 sh1 pr1 si1 st1 sum1 hu1 n1 n2 HEA).mono ?_
  rintro e w3 ⟨rfl, b3⟩
  replace FA := Lib.hid (upQ FA.out b3)
  replace VA := Lib.hid (VA.out.later b3)
  replace HB := Lib.hid (below2Z HB.out b3)
  clear b3
  go_wp2_with fail
  refine (live6 _).mono ?_
  rintro e w4 ⟨rfl, b4⟩
  replace FA := Lib.hid (upQ FA.out b4)
  replace VA := Lib.hid (VA.out.later b4)
  replace HB := Lib.hid (below2Z HB.out b4)
  clear b4
  go_wp2_with fail
  go_ret
  exact ⟨rfl, HB.out⟩

set_option maxHeartbeats 3200000 in
set_option maxRecDepth 100000 in
theorem fwz_3 {w : World} {v1 : Value} {k1 q1 sh1 pr1 si1 : Int} {on1 : Bool} {c1 st1 : List UInt8} {sum1 : Nat} {tt1 : List Row} (hv1 : Tab w v1 tt1) (hc1 : c1.length ≤ maxLen) (hs1 : st1.length ≤ maxLen) (hu1 : sum1 < 18446744073709551616) (HF1 : Hid (fewF ⟨k1, q1, on1, c1, ⟨sh1, pr1, si1, st1⟩, sum1, tt1⟩ = true)) {l1 : List UInt8} (hl6 : 6 ≤ l1.length) (hl20 : l1.length ≤ 2000) (HEA : Hid (frEnc ⟨k1, q1, on1, c1, ⟨sh1, pr1, si1, st1⟩, sum1, tt1⟩ = (l1, 0))) (hk : ¬ k1 = 3) :
    Calls Try.prog 8 #[.agg #[.int .i64 k1, .int .i64 q1, .bool on1, .string ⟨c1.toArray⟩, .int .i64 sh1, .int .i64 pr1, .int .i64 si1, .string ⟨st1.toArray⟩, .int .u64 sum1, v1]] w fun e w' => e = .returned (.bool true) ∧ Below w.heap.size w w' := by
  obtain ⟨s1, n1, n2⟩ := fewF_get HF1.out
  simp only at s1 n1 n2
  have HSA := Lib.hid s1
  clear s1
  have tA : decide ((2000 : Int) < (l1.length : Int)) = false := by rw [decide_eq_false_iff_not]; omega
  have tAb : decide (2000 < l1.length) = false := by rw [decide_eq_false_iff_not]; omega
  have tB : decide ((l1.length : Int) < 6) = false := by rw [decide_eq_false_iff_not]; omega
  have tBb : decide (l1.length < 6) = false := by rw [decide_eq_false_iff_not]; omega
  have hll : l1.length ≤ 9223372036854775807 := by omega
  have hsz : (⟨l1.toArray⟩ : ByteArray).size = l1.length := size_bytes l1
  have tk : (k1 == 3) = false := by rw [beq_eq_false_iff_ne]; exact hk
  clear hk
  obtain ⟨va, ca, rfl, -⟩ := hv1.open'
  have b0 := bl_newZ w (.cells #[.int .i64 k1, .int .i64 q1, .bool on1, .string ⟨c1.toArray⟩, .int .i64 sh1, .int .i64 pr1, .int .i64 si1, .string ⟨st1.toArray⟩, .int .u64 sum1, .slice va tt1.length ca] 27)
  have HB := Lib.hid b0
  have VA := Lib.hid (hv1.later b0)
  have FA := newQ w (.cells #[.int .i64 k1, .int .i64 q1, .bool on1, .string ⟨c1.toArray⟩, .int .i64 sh1, .int .i64 pr1, .int .i64 si1, .string ⟨st1.toArray⟩, .int .u64 sum1, .slice va tt1.length ca] 27)
  replace FA := Lib.hid FA
  clear b0
  clear hv1
  go_enter Try.func8, Try.ntmps8
  obtain ⟨⟨FAc0, FAc1, FAc2, FAc3, FAc4, FAc5, FAc6, FAc7, FAc8, FAc9⟩, ⟨FAf0, FAf1, FAf2, FAf3, FAf4, FAf5, FAf6, FAf7, FAf8, FAf9⟩⟩ := blk10 FA.out
  go_wp2_with fail
  clear FAc0 FAc1 FAc2 FAc3 FAc4 FAc5 FAc6 FAc7 FAc8 FAc9 FAf0 FAf1 FAf2 FAf3 FAf4 FAf5 FAf6 FAf7 FAf8 FAf9
  refine (fewf_eq VA.out k1 q1 on1 c1 sh1 pr1 si1 st1 sum1 hc1 hs1 HF1).mono ?_
  rintro e w2 ⟨rfl, b2⟩
  replace FA := Lib.hid (upQ FA.out b2)
  replace VA := Lib.hid (VA.out.later b2)
  replace HB := Lib.hid (below2Z HB.out b2)
  clear b2
  obtain ⟨⟨FAc0, FAc1, FAc2, FAc3, FAc4, FAc5, FAc6, FAc7, FAc8, FAc9⟩, ⟨FAf0, FAf1, FAf2, FAf3, FAf4, FAf5, FAf6, FAf7, FAf8, FAf9⟩⟩ := blk10 FA.out
  go_wp2_with fail
  clear FAc0 FAc1 FAc2 FAc3 FAc4 FAc5 FAc6 FAc7 FAc8 FAc9 FAf0 FAf1 FAf2 FAf3 FAf4 FAf5 FAf6 FAf7 FAf8 FAf9
  refine (frenc_any VA.out HSA.out k1 q1 on1 c1 sh1 pr1 si1 st1 sum1 hu1 n1 n2 HEA).mono ?_
  rintro e w3 ⟨rfl, b3⟩
  replace FA := Lib.hid (upQ FA.out b3)
  replace VA := Lib.hid (VA.out.later b3)
  replace HB := Lib.hid (below2Z HB.out b3)
  clear b3
  obtain ⟨⟨FAc0, FAc1, FAc2, FAc3, FAc4, FAc5, FAc6, FAc7, FAc8, FAc9⟩, ⟨FAf0, FAf1, FAf2, FAf3, FAf4, FAf5, FAf6, FAf7, FAf8, FAf9⟩⟩ := blk10 FA.out
  go_wp2_with fail
  clear FAc0 FAc1 FAc2 FAc3 FAc4 FAc5 FAc6 FAc7 FAc8 FAc9 FAf0 FAf1 FAf2 FAf3 FAf4 FAf5 FAf6 FAf7 FAf8 FAf9
  refine (live6 _).mono ?_
  rintro e w4 ⟨rfl, b4⟩
  replace FA := Lib.hid (upQ FA.out b4)
  replace VA := Lib.hid (VA.out.later b4)
  replace HB := Lib.hid (below2Z HB.out b4)
  clear b4
  go_wp2_with fail
  go_ret
  exact ⟨rfl, HB.out⟩

set_option maxHeartbeats 3200000 in
set_option maxRecDepth 100000 in
theorem fwz_4 {w : World} {va : Option Addr} {ca : Nat} {q1 sh1 pr1 si1 : Int} {on1 : Bool} {c1 st1 : List UInt8} {sum1 : Nat} (hv1 : Tab w (.slice va 0 ca) []) (hc1 : c1.length ≤ maxLen) (hs1 : st1.length ≤ maxLen) (hu1 : sum1 < 18446744073709551616) (HF1 : Hid (fewF ⟨3, q1, on1, c1, ⟨sh1, pr1, si1, st1⟩, sum1, []⟩ = true)) {l1 : List UInt8} (hl6 : 6 ≤ l1.length) (hl20 : l1.length ≤ 2000) (HEA : Hid (frEnc ⟨3, q1, on1, c1, ⟨sh1, pr1, si1, st1⟩, sum1, []⟩ = (l1, 0))) :
    Calls Try.prog 8 #[.agg #[.int .i64 3, .int .i64 q1, .bool on1, .string ⟨c1.toArray⟩, .int .i64 sh1, .int .i64 pr1, .int .i64 si1, .string ⟨st1.toArray⟩, .int .u64 sum1, .slice va 0 ca]] w fun e w' => e = .returned (.bool true) ∧ Below w.heap.size w w' := by
  obtain ⟨s1, n1, n2⟩ := fewF_get HF1.out
  simp only at s1 n1 n2
  have HSA := Lib.hid s1
  clear s1
  have tA : decide ((2000 : Int) < (l1.length : Int)) = false := by rw [decide_eq_false_iff_not]; omega
  have tAb : decide (2000 < l1.length) = false := by rw [decide_eq_false_iff_not]; omega
  have tB : decide ((l1.length : Int) < 6) = false := by rw [decide_eq_false_iff_not]; omega
  have tBb : decide (l1.length < 6) = false := by rw [decide_eq_false_iff_not]; omega
  have hll : l1.length ≤ 9223372036854775807 := by omega
  have hsz : (⟨l1.toArray⟩ : ByteArray).size = l1.length := size_bytes l1
  have b0 := bl_newZ w (.cells #[.int .i64 3, .int .i64 q1, .bool on1, .string ⟨c1.toArray⟩, .int .i64 sh1, .int .i64 pr1, .int .i64 si1, .string ⟨st1.toArray⟩, .int .u64 sum1, .slice va 0 ca] 27)
  have HB := Lib.hid b0
  have VA := Lib.hid (hv1.later b0)
  have FA := newQ w (.cells #[.int .i64 3, .int .i64 q1, .bool on1, .string ⟨c1.toArray⟩, .int .i64 sh1, .int .i64 pr1, .int .i64 si1, .string ⟨st1.toArray⟩, .int .u64 sum1, .slice va 0 ca] 27)
  replace FA := Lib.hid FA
  clear b0
  clear hv1
  go_enter Try.func8, Try.ntmps8
  obtain ⟨⟨FAc0, FAc1, FAc2, FAc3, FAc4, FAc5, FAc6, FAc7, FAc8, FAc9⟩, ⟨FAf0, FAf1, FAf2, FAf3, FAf4, FAf5, FAf6, FAf7, FAf8, FAf9⟩⟩ := blk10 FA.out
  go_wp2_with fail
  clear FAc0 FAc1 FAc2 FAc3 FAc4 FAc5 FAc6 FAc7 FAc8 FAc9 FAf0 FAf1 FAf2 FAf3 FAf4 FAf5 FAf6 FAf7 FAf8 FAf9
  refine (fewf_eq VA.out 3 q1 on1 c1 sh1 pr1 si1 st1 sum1 hc1 hs1 HF1).mono ?_
  rintro e w2 ⟨rfl, b2⟩
  replace FA := Lib.hid (upQ FA.out b2)
  replace VA := Lib.hid (VA.out.later b2)
  replace HB := Lib.hid (below2Z HB.out b2)
  clear b2
  obtain ⟨⟨FAc0, FAc1, FAc2, FAc3, FAc4, FAc5, FAc6, FAc7, FAc8, FAc9⟩, ⟨FAf0, FAf1, FAf2, FAf3, FAf4, FAf5, FAf6, FAf7, FAf8, FAf9⟩⟩ := blk10 FA.out
  go_wp2_with fail
  clear FAc0 FAc1 FAc2 FAc3 FAc4 FAc5 FAc6 FAc7 FAc8 FAc9 FAf0 FAf1 FAf2 FAf3 FAf4 FAf5 FAf6 FAf7 FAf8 FAf9
  refine (frenc_any VA.out HSA.out 3 q1 on1 c1 sh1 pr1 si1 st1 sum1 hu1 n1 n2 HEA).mono ?_
  rintro e w3 ⟨rfl, b3⟩
  replace FA := Lib.hid (upQ FA.out b3)
  replace VA := Lib.hid (VA.out.later b3)
  replace HB := Lib.hid (below2Z HB.out b3)
  clear b3
  obtain ⟨⟨FAc0, FAc1, FAc2, FAc3, FAc4, FAc5, FAc6, FAc7, FAc8, FAc9⟩, ⟨FAf0, FAf1, FAf2, FAf3, FAf4, FAf5, FAf6, FAf7, FAf8, FAf9⟩⟩ := blk10 FA.out
  go_wp2_with fail
  clear FAc0 FAc1 FAc2 FAc3 FAc4 FAc5 FAc6 FAc7 FAc8 FAc9 FAf0 FAf1 FAf2 FAf3 FAf4 FAf5 FAf6 FAf7 FAf8 FAf9
  refine (live6 _).mono ?_
  rintro e w4 ⟨rfl, b4⟩
  replace FA := Lib.hid (upQ FA.out b4)
  replace VA := Lib.hid (VA.out.later b4)
  replace HB := Lib.hid (below2Z HB.out b4)
  clear b4
  go_wp2_with fail
  go_ret
  exact ⟨rfl, HB.out⟩

theorem tab_capZ {w : World} {va : Option Addr} {n ca : Nat} {t : List Row} (h : Tab w (.slice va n ca) t) : n ≤ ca ∧ ca ≤ maxLen := by
  obtain ⟨a, cap, e, h1, h2, _⟩ := h
  simp only [Value.slice.injEq] at e
  obtain ⟨_, rfl, rfl⟩ := e
  exact ⟨h1, h2⟩

theorem frTable_mayZ {q : Int} {on : Bool} {c : List UInt8} {v : Val} {sum : Nat} {t : List Row} (h : frMay ⟨3, q, on, c, v, sum, t⟩ = true) : diMay t = true := ((may3_iff (q := 0) rfl).1 h).2

theorem tab_front {w : World} {va : Option Addr} {ca n : Nat} {t : List Row} (h : Tab w (.slice va (n + 1) ca) t) (hn : t.length = n + 1) : Tab w (.slice va n ca) (t.take n) := by
  obtain ⟨a, cap, h1, h2, h3, h4, h5⟩ := h
  simp only [Value.slice.injEq] at h1
  obtain ⟨rfl, _, rfl⟩ := h1
  have hl : (t.take n).length = n := by rw [List.length_take]; omega
  refine ⟨va, ca, by rw [hl], by omega, h3, h4, ?_⟩
  rcases h5 with h5 | ⟨b, off, e, hlt, hc⟩
  · rw [h5] at hn; simp at hn
  · refine .inr ⟨b, off, e, hlt, fun i hi => ?_⟩
    have hi2 : i < n := by omega
    have := hc i (by omega)
    have e2 : (t.take n).getD i Row.zero = t.getD i Row.zero := by
      simp only [List.getD_eq_getElem?_getD, List.getElem?_take, if_pos hi2]
    rw [e2]
    exact this

set_option maxHeartbeats 3200000 in
set_option maxRecDepth 100000 in
theorem fwz_5 {w : World} {va : Option Addr} {ca : Nat} {q1 sh1 pr1 si1 : Int} {on1 : Bool} {c1 st1 : List UInt8} {sum1 : Nat} {n : Nat} {t : List Row} (hn : t.length = n + 1) (hn32 : n + 1 ≤ 32) (hca : n + 1 ≤ ca) (_hcm : ca ≤ maxLen) (hv1 : Tab w (.slice va (n + 1) ca) t) (hc1 : c1.length ≤ maxLen) (hs1 : st1.length ≤ maxLen) (hu1 : sum1 < 18446744073709551616) (HF1 : Hid (fewF ⟨3, q1, on1, c1, ⟨sh1, pr1, si1, st1⟩, sum1, t⟩ = true)) {l1 : List UInt8} (hl6 : 6 ≤ l1.length) (hl20 : l1.length ≤ 2000) (HEA : Hid (frEnc ⟨3, q1, on1, c1, ⟨sh1, pr1, si1, st1⟩, sum1, t⟩ = (l1, 0))) {l2 : List UInt8} (HE2 : Hid (frEnc ⟨3, q1, on1, c1, ⟨sh1, pr1, si1, st1⟩, sum1, (t.take n)⟩ = (l2, 0))) (hs2 : Short (t.take n)) (hlt : l2.length < l1.length) :
    Calls Try.prog 8 #[.agg #[.int .i64 3, .int .i64 q1, .bool on1, .string ⟨c1.toArray⟩, .int .i64 sh1, .int .i64 pr1, .int .i64 si1, .string ⟨st1.toArray⟩, .int .u64 sum1, .slice va (n + 1) ca]] w fun e w' => e = .returned (.bool true) ∧ Below w.heap.size w w' := by
  obtain ⟨s1, n1, n2⟩ := fewF_get HF1.out
  simp only at s1 n1 n2
  have HSA := Lib.hid s1
  clear s1
  have tA : decide ((2000 : Int) < (l1.length : Int)) = false := by rw [decide_eq_false_iff_not]; omega
  have tAb : decide (2000 < l1.length) = false := by rw [decide_eq_false_iff_not]; omega
  have tB : decide ((l1.length : Int) < 6) = false := by rw [decide_eq_false_iff_not]; omega
  have tBb : decide (l1.length < 6) = false := by rw [decide_eq_false_iff_not]; omega
  have hll : l1.length ≤ 9223372036854775807 := by omega
  have hsz : (⟨l1.toArray⟩ : ByteArray).size = l1.length := size_bytes l1
  have tn : (((n + 1 : Nat) : Int) == 0) = false := by rw [beq_eq_false_iff_ne]; omega
  have tn2 : ((n : Int) + 1 == 0) = false := by rw [beq_eq_false_iff_ne]; omega
  have tl : decide ((l2.length : Int) < (l1.length : Int)) = true := by rw [decide_eq_true_eq]; omega
  have tlb : decide (l2.length < l1.length) = true := by rw [decide_eq_true_eq]; omega
  have hsz2 : (⟨l2.toArray⟩ : ByteArray).size = l2.length := size_bytes l2
  have HS2 := Lib.hid hs2
  clear hlt hs2
  have b0 := bl_newZ w (.cells #[.int .i64 3, .int .i64 q1, .bool on1, .string ⟨c1.toArray⟩, .int .i64 sh1, .int .i64 pr1, .int .i64 si1, .string ⟨st1.toArray⟩, .int .u64 sum1, .slice va (n + 1) ca] 27)
  have HB := Lib.hid b0
  have VA := Lib.hid (hv1.later b0)
  have FA := newQ w (.cells #[.int .i64 3, .int .i64 q1, .bool on1, .string ⟨c1.toArray⟩, .int .i64 sh1, .int .i64 pr1, .int .i64 si1, .string ⟨st1.toArray⟩, .int .u64 sum1, .slice va (n + 1) ca] 27)
  replace FA := Lib.hid FA
  clear b0
  have VT := Lib.hid ((tab_front hv1 hn).later HB.out)
  clear hv1
  go_enter Try.func8, Try.ntmps8
  obtain ⟨⟨FAc0, FAc1, FAc2, FAc3, FAc4, FAc5, FAc6, FAc7, FAc8, FAc9⟩, ⟨FAf0, FAf1, FAf2, FAf3, FAf4, FAf5, FAf6, FAf7, FAf8, FAf9⟩⟩ := blk10 FA.out
  go_wp2_with fail
  clear FAc0 FAc1 FAc2 FAc3 FAc4 FAc5 FAc6 FAc7 FAc8 FAc9 FAf0 FAf1 FAf2 FAf3 FAf4 FAf5 FAf6 FAf7 FAf8 FAf9
  refine (fewf_eq VA.out 3 q1 on1 c1 sh1 pr1 si1 st1 sum1 hc1 hs1 HF1).mono ?_
  rintro e w2 ⟨rfl, b2⟩
  replace FA := Lib.hid (upQ FA.out b2)
  replace VA := Lib.hid (VA.out.later b2)
  replace VT := Lib.hid (Tab.later VT.out b2)
  replace HB := Lib.hid (below2Z HB.out b2)
  clear b2
  obtain ⟨⟨FAc0, FAc1, FAc2, FAc3, FAc4, FAc5, FAc6, FAc7, FAc8, FAc9⟩, ⟨FAf0, FAf1, FAf2, FAf3, FAf4, FAf5, FAf6, FAf7, FAf8, FAf9⟩⟩ := blk10 FA.out
  go_wp2_with fail
  clear FAc0 FAc1 FAc2 FAc3 FAc4 FAc5 FAc6 FAc7 FAc8 FAc9 FAf0 FAf1 FAf2 FAf3 FAf4 FAf5 FAf6 FAf7 FAf8 FAf9
  refine (frenc_any VA.out HSA.out 3 q1 on1 c1 sh1 pr1 si1 st1 sum1 hu1 n1 n2 HEA).mono ?_
  rintro e w3 ⟨rfl, b3⟩
  replace FA := Lib.hid (upQ FA.out b3)
  replace VA := Lib.hid (VA.out.later b3)
  replace VT := Lib.hid (Tab.later VT.out b3)
  replace HB := Lib.hid (below2Z HB.out b3)
  clear b3
  obtain ⟨⟨FAc0, FAc1, FAc2, FAc3, FAc4, FAc5, FAc6, FAc7, FAc8, FAc9⟩, ⟨FAf0, FAf1, FAf2, FAf3, FAf4, FAf5, FAf6, FAf7, FAf8, FAf9⟩⟩ := blk10 FA.out
  have hAl := (Array.getElem?_eq_some_iff.1 FA.out).1
  go_wp2_with fail
  clear FAc0 FAc1 FAc2 FAc3 FAc4 FAc5 FAc6 FAc7 FAc8 FAc9 FAf0 FAf1 FAf2 FAf3 FAf4 FAf5 FAf6 FAf7 FAf8 FAf9 hAl
  have b4 := bl_newZ w3 (.cells #[.int .i64 3, .int .i64 q1, .bool on1, .string ⟨c1.toArray⟩, .int .i64 sh1, .int .i64 pr1, .int .i64 si1, .string ⟨st1.toArray⟩, .int .u64 sum1, .slice va n ca] 27)
  have G := newQ w3 (.cells #[.int .i64 3, .int .i64 q1, .bool on1, .string ⟨c1.toArray⟩, .int .i64 sh1, .int .i64 pr1, .int .i64 si1, .string ⟨st1.toArray⟩, .int .u64 sum1, .slice va n ca] 27)
  have hG : w.heap.size ≤ w3.heap.size := HB.out.size
  replace FA := Lib.hid (upQ FA.out b4)
  replace VA := Lib.hid (VA.out.later b4)
  replace VT := Lib.hid (Tab.later VT.out b4)
  replace HB := Lib.hid (below2Z HB.out b4)
  clear b4
  replace G := Lib.hid G
  generalize w3.alloc (.cells #[.int .i64 3, .int .i64 q1, .bool on1, .string ⟨c1.toArray⟩, .int .i64 sh1, .int .i64 pr1, .int .i64 si1, .string ⟨st1.toArray⟩, .int .u64 sum1, .slice va n ca] 27) = w5 at FA G VA VT HB ⊢
  generalize w3.heap.size = BG at G hG ⊢
  refine (frenc_any VT.out HS2.out 3 q1 on1 c1 sh1 pr1 si1 st1 sum1 hu1 n1 n2 HE2).mono ?_
  rintro e w6 ⟨rfl, b6⟩
  replace FA := Lib.hid (upQ FA.out b6)
  replace G := Lib.hid (upQ G.out b6)
  replace VA := Lib.hid (VA.out.later b6)
  replace VT := Lib.hid (Tab.later VT.out b6)
  replace HB := Lib.hid (below2Z HB.out b6)
  clear b6
  go_wp2_with fail
  refine (live6 _).mono ?_
  rintro e w7 ⟨rfl, b7⟩
  replace FA := Lib.hid (upQ FA.out b7)
  replace G := Lib.hid (upQ G.out b7)
  replace VA := Lib.hid (VA.out.later b7)
  replace VT := Lib.hid (Tab.later VT.out b7)
  replace HB := Lib.hid (below2Z HB.out b7)
  clear b7
  go_wp2_with fail
  go_ret
  exact ⟨rfl, HB.out⟩

theorem walkFrameSizes {w : World} {v1 : Value} {k1 q1 sh1 pr1 si1 : Int} {on1 : Bool} {c1 st1 : List UInt8} {sum1 : Nat} {tt1 : List Row} (hv1 : Tab w v1 tt1) (hc1 : c1.length ≤ maxLen) (hs1 : st1.length ≤ maxLen) (hu1 : sum1 < 18446744073709551616) :
    Calls Try.prog 8 #[.agg #[.int .i64 k1, .int .i64 q1, .bool on1, .string ⟨c1.toArray⟩, .int .i64 sh1, .int .i64 pr1, .int .i64 si1, .string ⟨st1.toArray⟩, .int .u64 sum1, v1]] w fun e w' => e = .returned (.bool true) ∧ Below w.heap.size w w' := by
  cases hf : fewF ⟨k1, q1, on1, c1, ⟨sh1, pr1, si1, st1⟩, sum1, tt1⟩ with
  | false => exact fwz_1 hv1 hc1 hs1 (Lib.hid hf)
  | true =>
  cases hm : frMay ⟨k1, q1, on1, c1, ⟨sh1, pr1, si1, st1⟩, sum1, tt1⟩ with
  | false => exact fwz_2 hv1 hc1 hs1 hu1 (Lib.hid hf) (Lib.hid (enc_notP hm))
  | true =>
  obtain ⟨l6, l20⟩ := enc_lenP hm
  by_cases hk : k1 = 3
  · subst hk
    obtain ⟨va, ca, rfl, -⟩ := hv1.open'
    have hca := tab_capZ hv1
    have h32 := ((diMay_iff.1 (frTable_mayZ hm)).1)
    cases hn : tt1.length with
    | zero =>
      obtain rfl := List.length_eq_zero_iff.1 hn
      exact fwz_4 hv1 hc1 hs1 hu1 (Lib.hid hf) l6 l20 (Lib.hid (enc_mayP hm))
    | succ n =>
      have hl := less_may hm hn
      have hsh := (fewF_get hf).1
      rw [hn] at hv1 hca h32
      exact fwz_5 hn h32 hca.1 hca.2 hv1 hc1 hs1 hu1 (Lib.hid hf) l6 l20 (Lib.hid (enc_mayP hm)) (Lib.hid (enc_mayP hl.1)) (fun r hr => hsh r (List.mem_of_mem_take hr)) hl.2
  · exact fwz_3 hv1 hc1 hs1 hu1 (Lib.hid hf) l6 l20 (Lib.hid (enc_mayP hm)) hk

end Go.Proofs.Ytohfhphiofobcaa

end

section

/-
  THE FRAME OF THE PROOF OF FrameSizes: for every input the law returns true, and each argument reads behind the call as it read before. No condition.
-/
namespace Go.Proofs.Ytohfhphiofobcaa.frameSizes
open Go.ChangeShapes Go.WideShapes Go.ChangeAt Go.RowKit
open Go.ChangeMaps (open_string shut_string)
set_option linter.unusedVariables false

theorem own : ownKnob Try.prog.godebug = none := by kernel_rfl
theorem laidOut : laidOutB Try.prog = true := by kernel_rfl

set_option maxRecDepth 100000 in
theorem lifted (os : Os) (started : os.Started) (H : Type) (enc : TypeId × Value → H) :
    ReturnsInHanded {} Try.checked os 8 .any (Rows.frameSizesSpec.pre6 enc Try.prog Try.f8 Rows.frameSizesRow.domain false) (Rows.frameSizesSpec.post enc Try.prog Try.f8 false true false false) := by
  refine returnsInHanded_of_change (C := Try.checked) own started (by kernel_rfl) Try.func8
    (ChangeSpec.witness6 (enc := enc) (C := Try.checked) false ⟨#[], #[.agg #[.int .i64 0, .int .i64 0, .bool false, .string ByteArray.empty, .int .i64 0, .int .i64 0, .int .i64 0, .string ByteArray.empty, .int .u64 0, .slice none 0 0]], []⟩ 8 (by kernel_rfl) (by kernel_rfl) (by kernel_rfl) (by kernel_rfl)) ?_
  intro W base args ds gs before hval0 hW hcnd _
  have hval : ∀ (j : Nat) t v, Try.f8.params[j]? = some t → args[j]? = some v → Value.okWide Try.prog W .any base t v := hval0
  have hW' := hW
  obtain ⟨p, q, hA0, hV, rfl, hfz, hnd⟩ := hW
  have hA : DataW.TrodAll enc Try.prog W 0 (fun _ => true) true Try.f8.params.toList args.toList ds p := hA0
  rw [Try.params8] at hA hval
  obtain ⟨v0, vs0, d0, ds0, p0, q0, hargs, rfl, rfl, h0, r0⟩ := trodAll_cons hA
  obtain ⟨rfl, rfl, rfl⟩ := trodAll_nil r0
  obtain rfl : args = #[v0] := by cases args; simp_all
  obtain ⟨rfl, rfl⟩ := trodVars_none hV
  have k0 := h0
  have lt0 : ∀ x ∈ p0, x.block < W.heap.size := by obtain ⟨m, hm⟩ := k0; exact DataW.trod_lt m _ _ _ hm
  obtain ⟨f0, t0, rfl, c0, s0, u0, w0⟩ := open_frame (hval 0 27 v0 rfl rfl) h0
  clear hA0 hval0
  refine (walkFrameSizes (w := W) w0 c0 s0 u0).mono fun e W' ⟨he, bel⟩ => ?_
  subst he
  exact ⟨_, rfl, _, _, _, [], _, [], hW', trodAll_mk1 (shut_bool Try.underlying4 _), (trodAll_cons_mk (Below.trod laidOut (by kernel_rfl) (of_decide_eq_true (by kernel_rfl)) k0 bel lt0) trodAll_mk0), rfl, bel.frame _, fun h => by cases h⟩

theorem over : Rows.frameSizesRow.holds Try.pinned (OpenSpec.ofChange Rows.frameSizesSpec) :=
  OpenClaim.holds_of_wide 8 Try.f8 rfl rfl rfl rfl rfl rfl rfl ⟨rfl, rfl, rfl, rfl, rfl⟩ rfl rfl rfl rfl rfl (by kernel_rfl) Try.func8 (by kernel_rfl)
    (of_decide_eq_true (by kernel_rfl)) (by unfold Func.isWrapper; first | (rw [if_pos (by decide +kernel)]; kernel_rfl) | (rw [if_neg (by decide +kernel)]; exact ⟨rfl, rfl⟩))
    (fun os started H enc _ => lifted os started H enc)

/-- THE STATEMENT. -/
theorem proved : Rows.FrameSizesSaid := over
#print axioms proved
end Go.Proofs.Ytohfhphiofobcaa.frameSizes

end
