/-
  THE PROOF OF FrameBack: for every input the law returns true, and each argument reads behind the call as it read before. No condition.
-/
import Derived.Test.YtohfhphiofobcaaS18
import Derived.Test.YtohfhphiofobcaaS24
import Derived.Test.YtohfhphiofobcaaS21
import Derived.Test.YtohfhphiofobcaaS08
import Derived.Test.YtohfhphiofobcaaRows
import Derived.ProofKit
import Derived.OpenShut
import Derived.ShutString
import Derived.ChangeOld
import Derived.SliceStrings
import Derived.Lib.SmallJoins

section

/-
  THE WALK OF FrameBack.
-/
namespace Go.Proofs.Ytohfhphiofobcaa
open Go.RowKit

theorem fwb_zero : frEnc ⟨0, 0, false, [], ⟨0, 0, 0, []⟩, 0, []⟩ = ([], 1) := by unfold frEnc; rw [if_neg (by rw [lf13]; decide)]
theorem fwb_nil : frDec [] = (⟨0, 0, false, [], ⟨0, 0, 0, []⟩, 0, []⟩, 2) := by
  have h : copen [] = ([], 2) := by decide +kernel
  unfold frDec; rw [h, if_pos (by decide)]; rfl
theorem fwb_err {s : List UInt8} {f : Frm} {e : Nat} (h : frDec s = (f, e)) (he : e ≠ 0) : f = ⟨0, 0, false, [], ⟨0, 0, 0, []⟩, 0, []⟩ := by
  rw [frDec_doc] at h
  unfold frDoc at h
  split at h
  · simp only [Prod.mk.injEq] at h; exact h.1.symm
  · split at h
    · simp only [Prod.mk.injEq] at h; exact absurd h.2.symm he
    · simp only [Prod.mk.injEq] at h; exact h.1.symm
theorem fwb_ok {s : List UInt8} {f : Frm} (h : frDec s = (f, 0)) (hl : s.length ≤ 4294967296) : frEnc f = (s, 0) ∧ FrShort f := by
  rw [frDec_doc] at h
  unfold frDoc at h
  have hc : (copen s).1.length ≤ s.length := copen_lenF (t := (copen s).1) (er := (copen s).2) rfl
  split at h
  · rename_i hne; simp only [Prod.mk.injEq] at h; exact absurd h.2 hne
  · split at h
    · rename_i hm
      simp only [Prod.mk.injEq, and_true] at h
      have hs := frRead_short (copen s).1 (by omega)
      rw [h] at hm hs
      refine ⟨?_, hs⟩
      unfold frEnc
      rw [if_pos hm.1, hm.2]
    · simp only [Prod.mk.injEq] at h; omega
theorem fwb_inj {f g : Frm} (hf : frMay f = true) (hg : frMay g = true) (sf : f.sum < 18446744073709551616) (sg : g.sum < 18446744073709551616) : (cseal (frPlain f) == cseal (frPlain g)) = frSame f g := by
  rw [Bool.eq_iff_iff, beq_iff_eq, frSame_iff]
  constructor
  · intro h
    have h1 := (frDec_plain hf sf rfl).1
    have h2 := (frDec_plain hg sg rfl).1
    rw [h] at h1
    rw [h1] at h2
    simpa using h2
  · rintro rfl; rfl

set_option maxHeartbeats 3200000 in
set_option maxRecDepth 100000 in
theorem fwb_1 {w : World} {v1 v2 : Value} {k1 q1 sh1 pr1 si1 : Int} {on1 : Bool} {c1 st1 : List UInt8} {sum1 : Nat} {tt1 : List Row} {k2 q2 sh2 pr2 si2 : Int} {on2 : Bool} {c2 st2 : List UInt8} {sum2 : Nat} {tt2 : List Row} (hv1 : Tab w v1 tt1) (hv2 : Tab w v2 tt2) (l : List UInt8) (hc1 : c1.length ≤ maxLen) (hs1 : st1.length ≤ maxLen) (HF1 : Hid (fewF ⟨k1, q1, on1, c1, ⟨sh1, pr1, si1, st1⟩, sum1, tt1⟩ = false)) :
    Calls Try.prog 5 #[.agg #[.int .i64 k1, .int .i64 q1, .bool on1, .string ⟨c1.toArray⟩, .int .i64 sh1, .int .i64 pr1, .int .i64 si1, .string ⟨st1.toArray⟩, .int .u64 sum1, v1], .agg #[.int .i64 k2, .int .i64 q2, .bool on2, .string ⟨c2.toArray⟩, .int .i64 sh2, .int .i64 pr2, .int .i64 si2, .string ⟨st2.toArray⟩, .int .u64 sum2, v2], .string ⟨l.toArray⟩] w fun e w' => e = .returned (.bool true) ∧ Below w.heap.size w w' := by
  have hs1z : (⟨l.toArray⟩ : ByteArray).size = l.length := size_bytes l
  obtain ⟨va, ca, rfl, -⟩ := hv1.open'
  obtain ⟨vb, cb, rfl, -⟩ := hv2.open'
  have b0 := bl_newZ w (.cells #[.int .i64 k1, .int .i64 q1, .bool on1, .string ⟨c1.toArray⟩, .int .i64 sh1, .int .i64 pr1, .int .i64 si1, .string ⟨st1.toArray⟩, .int .u64 sum1, .slice va tt1.length ca] 27)
  have b1 := bl_newZ (w.alloc (.cells #[.int .i64 k1, .int .i64 q1, .bool on1, .string ⟨c1.toArray⟩, .int .i64 sh1, .int .i64 pr1, .int .i64 si1, .string ⟨st1.toArray⟩, .int .u64 sum1, .slice va tt1.length ca] 27)) (.cells #[.int .i64 k2, .int .i64 q2, .bool on2, .string ⟨c2.toArray⟩, .int .i64 sh2, .int .i64 pr2, .int .i64 si2, .string ⟨st2.toArray⟩, .int .u64 sum2, .slice vb tt2.length cb] 27)
  have HB := Lib.hid (below2Z b0 b1)
  have VA := Lib.hid ((hv1.later b0).later b1)
  have VB := Lib.hid ((hv2.later b0).later b1)
  have FA := newQ w (.cells #[.int .i64 k1, .int .i64 q1, .bool on1, .string ⟨c1.toArray⟩, .int .i64 sh1, .int .i64 pr1, .int .i64 si1, .string ⟨st1.toArray⟩, .int .u64 sum1, .slice va tt1.length ca] 27)
  replace FA := upQ FA b1
  replace FA := Lib.hid FA
  have FB := newQ (w.alloc (.cells #[.int .i64 k1, .int .i64 q1, .bool on1, .string ⟨c1.toArray⟩, .int .i64 sh1, .int .i64 pr1, .int .i64 si1, .string ⟨st1.toArray⟩, .int .u64 sum1, .slice va tt1.length ca] 27)) (.cells #[.int .i64 k2, .int .i64 q2, .bool on2, .string ⟨c2.toArray⟩, .int .i64 sh2, .int .i64 pr2, .int .i64 si2, .string ⟨st2.toArray⟩, .int .u64 sum2, .slice vb tt2.length cb] 27)
  rw [World.size_alloc] at FB
  replace FB := Lib.hid FB
  clear b0 b1
  clear hv1 hv2
  go_enter Try.func5, Try.ntmps5
  obtain ⟨⟨FAc0, FAc1, FAc2, FAc3, FAc4, FAc5, FAc6, FAc7, FAc8, FAc9⟩, ⟨FAf0, FAf1, FAf2, FAf3, FAf4, FAf5, FAf6, FAf7, FAf8, FAf9⟩⟩ := blk10 FA.out
  go_wp2_with fail
  clear FAc0 FAc1 FAc2 FAc3 FAc4 FAc5 FAc6 FAc7 FAc8 FAc9 FAf0 FAf1 FAf2 FAf3 FAf4 FAf5 FAf6 FAf7 FAf8 FAf9
  refine (fewf_eq VA.out k1 q1 on1 c1 sh1 pr1 si1 st1 sum1 hc1 hs1 HF1).mono ?_
  rintro e w3 ⟨rfl, b3⟩
  replace FA := Lib.hid (upQ FA.out b3)
  replace FB := Lib.hid (upQ FB.out b3)
  replace VA := Lib.hid (VA.out.later b3)
  replace VB := Lib.hid (VB.out.later b3)
  replace HB := Lib.hid (below2Z HB.out b3)
  clear b3
  go_wp2_with fail
  refine (live6 _).mono ?_
  rintro e w4 ⟨rfl, b4⟩
  replace FA := Lib.hid (upQ FA.out b4)
  replace FB := Lib.hid (upQ FB.out b4)
  replace VA := Lib.hid (VA.out.later b4)
  replace VB := Lib.hid (VB.out.later b4)
  replace HB := Lib.hid (below2Z HB.out b4)
  clear b4
  go_wp2_with fail
  go_ret
  exact ⟨rfl, HB.out⟩

set_option maxHeartbeats 3200000 in
set_option maxRecDepth 100000 in
theorem fwb_2 {w : World} {v1 v2 : Value} {k1 q1 sh1 pr1 si1 : Int} {on1 : Bool} {c1 st1 : List UInt8} {sum1 : Nat} {tt1 : List Row} {k2 q2 sh2 pr2 si2 : Int} {on2 : Bool} {c2 st2 : List UInt8} {sum2 : Nat} {tt2 : List Row} (hv1 : Tab w v1 tt1) (hv2 : Tab w v2 tt2) (l : List UInt8) (hc1 : c1.length ≤ maxLen) (hs1 : st1.length ≤ maxLen) (hc2 : c2.length ≤ maxLen) (hs2 : st2.length ≤ maxLen) (HF1 : Hid (fewF ⟨k1, q1, on1, c1, ⟨sh1, pr1, si1, st1⟩, sum1, tt1⟩ = true)) (HF2 : Hid (fewF ⟨k2, q2, on2, c2, ⟨sh2, pr2, si2, st2⟩, sum2, tt2⟩ = false)) :
    Calls Try.prog 5 #[.agg #[.int .i64 k1, .int .i64 q1, .bool on1, .string ⟨c1.toArray⟩, .int .i64 sh1, .int .i64 pr1, .int .i64 si1, .string ⟨st1.toArray⟩, .int .u64 sum1, v1], .agg #[.int .i64 k2, .int .i64 q2, .bool on2, .string ⟨c2.toArray⟩, .int .i64 sh2, .int .i64 pr2, .int .i64 si2, .string ⟨st2.toArray⟩, .int .u64 sum2, v2], .string ⟨l.toArray⟩] w fun e w' => e = .returned (.bool true) ∧ Below w.heap.size w w' := by
  have hs1z : (⟨l.toArray⟩ : ByteArray).size = l.length := size_bytes l
  obtain ⟨va, ca, rfl, -⟩ := hv1.open'
  obtain ⟨vb, cb, rfl, -⟩ := hv2.open'
  have b0 := bl_newZ w (.cells #[.int .i64 k1, .int .i64 q1, .bool on1, .string ⟨c1.toArray⟩, .int .i64 sh1, .int .i64 pr1, .int .i64 si1, .string ⟨st1.toArray⟩, .int .u64 sum1, .slice va tt1.length ca] 27)
  have b1 := bl_newZ (w.alloc (.cells #[.int .i64 k1, .int .i64 q1, .bool on1, .string ⟨c1.toArray⟩, .int .i64 sh1, .int .i64 pr1, .int .i64 si1, .string ⟨st1.toArray⟩, .int .u64 sum1, .slice va tt1.length ca] 27)) (.cells #[.int .i64 k2, .int .i64 q2, .bool on2, .string ⟨c2.toArray⟩, .int .i64 sh2, .int .i64 pr2, .int .i64 si2, .string ⟨st2.toArray⟩, .int .u64 sum2, .slice vb tt2.length cb] 27)
  have HB := Lib.hid (below2Z b0 b1)
  have VA := Lib.hid ((hv1.later b0).later b1)
  have VB := Lib.hid ((hv2.later b0).later b1)
  have FA := newQ w (.cells #[.int .i64 k1, .int .i64 q1, .bool on1, .string ⟨c1.toArray⟩, .int .i64 sh1, .int .i64 pr1, .int .i64 si1, .string ⟨st1.toArray⟩, .int .u64 sum1, .slice va tt1.length ca] 27)
  replace FA := upQ FA b1
  replace FA := Lib.hid FA
  have FB := newQ (w.alloc (.cells #[.int .i64 k1, .int .i64 q1, .bool on1, .string ⟨c1.toArray⟩, .int .i64 sh1, .int .i64 pr1, .int .i64 si1, .string ⟨st1.toArray⟩, .int .u64 sum1, .slice va tt1.length ca] 27)) (.cells #[.int .i64 k2, .int .i64 q2, .bool on2, .string ⟨c2.toArray⟩, .int .i64 sh2, .int .i64 pr2, .int .i64 si2, .string ⟨st2.toArray⟩, .int .u64 sum2, .slice vb tt2.length cb] 27)
  rw [World.size_alloc] at FB
  replace FB := Lib.hid FB
  clear b0 b1
  clear hv1 hv2
  go_enter Try.func5, Try.ntmps5
  obtain ⟨⟨FAc0, FAc1, FAc2, FAc3, FAc4, FAc5, FAc6, FAc7, FAc8, FAc9⟩, ⟨FAf0, FAf1, FAf2, FAf3, FAf4, FAf5, FAf6, FAf7, FAf8, FAf9⟩⟩ := blk10 FA.out
  go_wp2_with fail
  clear FAc0 FAc1 FAc2 FAc3 FAc4 FAc5 FAc6 FAc7 FAc8 FAc9 FAf0 FAf1 FAf2 FAf3 FAf4 FAf5 FAf6 FAf7 FAf8 FAf9
  refine (fewf_eq VA.out k1 q1 on1 c1 sh1 pr1 si1 st1 sum1 hc1 hs1 HF1).mono ?_
  rintro e w3 ⟨rfl, b3⟩
  replace FA := Lib.hid (upQ FA.out b3)
  replace FB := Lib.hid (upQ FB.out b3)
  replace VA := Lib.hid (VA.out.later b3)
  replace VB := Lib.hid (VB.out.later b3)
  replace HB := Lib.hid (below2Z HB.out b3)
  clear b3
  obtain ⟨⟨FBc0, FBc1, FBc2, FBc3, FBc4, FBc5, FBc6, FBc7, FBc8, FBc9⟩, ⟨FBf0, FBf1, FBf2, FBf3, FBf4, FBf5, FBf6, FBf7, FBf8, FBf9⟩⟩ := blk10 FB.out
  go_wp2_with fail
  clear FBc0 FBc1 FBc2 FBc3 FBc4 FBc5 FBc6 FBc7 FBc8 FBc9 FBf0 FBf1 FBf2 FBf3 FBf4 FBf5 FBf6 FBf7 FBf8 FBf9
  refine (fewf_eq VB.out k2 q2 on2 c2 sh2 pr2 si2 st2 sum2 hc2 hs2 HF2).mono ?_
  rintro e w4 ⟨rfl, b4⟩
  replace FA := Lib.hid (upQ FA.out b4)
  replace FB := Lib.hid (upQ FB.out b4)
  replace VA := Lib.hid (VA.out.later b4)
  replace VB := Lib.hid (VB.out.later b4)
  replace HB := Lib.hid (below2Z HB.out b4)
  clear b4
  go_wp2_with fail
  refine (live6 _).mono ?_
  rintro e w5 ⟨rfl, b5⟩
  replace FA := Lib.hid (upQ FA.out b5)
  replace FB := Lib.hid (upQ FB.out b5)
  replace VA := Lib.hid (VA.out.later b5)
  replace VB := Lib.hid (VB.out.later b5)
  replace HB := Lib.hid (below2Z HB.out b5)
  clear b5
  go_wp2_with fail
  go_ret
  exact ⟨rfl, HB.out⟩

set_option maxHeartbeats 3200000 in
set_option maxRecDepth 100000 in
theorem fwb_3 {w : World} {v1 v2 : Value} {k1 q1 sh1 pr1 si1 : Int} {on1 : Bool} {c1 st1 : List UInt8} {sum1 : Nat} {tt1 : List Row} {k2 q2 sh2 pr2 si2 : Int} {on2 : Bool} {c2 st2 : List UInt8} {sum2 : Nat} {tt2 : List Row} (hv1 : Tab w v1 tt1) (hv2 : Tab w v2 tt2) (l : List UInt8) (hc1 : c1.length ≤ maxLen) (hs1 : st1.length ≤ maxLen) (hc2 : c2.length ≤ maxLen) (hs2 : st2.length ≤ maxLen) (HF1 : Hid (fewF ⟨k1, q1, on1, c1, ⟨sh1, pr1, si1, st1⟩, sum1, tt1⟩ = true)) (HF2 : Hid (fewF ⟨k2, q2, on2, c2, ⟨sh2, pr2, si2, st2⟩, sum2, tt2⟩ = true)) (hl : 1500 < l.length) :
    Calls Try.prog 5 #[.agg #[.int .i64 k1, .int .i64 q1, .bool on1, .string ⟨c1.toArray⟩, .int .i64 sh1, .int .i64 pr1, .int .i64 si1, .string ⟨st1.toArray⟩, .int .u64 sum1, v1], .agg #[.int .i64 k2, .int .i64 q2, .bool on2, .string ⟨c2.toArray⟩, .int .i64 sh2, .int .i64 pr2, .int .i64 si2, .string ⟨st2.toArray⟩, .int .u64 sum2, v2], .string ⟨l.toArray⟩] w fun e w' => e = .returned (.bool true) ∧ Below w.heap.size w w' := by
  have tl : decide (1500 < (l.length : Int)) = true := by rw [decide_eq_true_eq]; omega
  have tl2 : decide (1500 < l.length) = true := by rw [decide_eq_true_eq]; omega
  have hs1z : (⟨l.toArray⟩ : ByteArray).size = l.length := size_bytes l
  obtain ⟨va, ca, rfl, -⟩ := hv1.open'
  obtain ⟨vb, cb, rfl, -⟩ := hv2.open'
  have b0 := bl_newZ w (.cells #[.int .i64 k1, .int .i64 q1, .bool on1, .string ⟨c1.toArray⟩, .int .i64 sh1, .int .i64 pr1, .int .i64 si1, .string ⟨st1.toArray⟩, .int .u64 sum1, .slice va tt1.length ca] 27)
  have b1 := bl_newZ (w.alloc (.cells #[.int .i64 k1, .int .i64 q1, .bool on1, .string ⟨c1.toArray⟩, .int .i64 sh1, .int .i64 pr1, .int .i64 si1, .string ⟨st1.toArray⟩, .int .u64 sum1, .slice va tt1.length ca] 27)) (.cells #[.int .i64 k2, .int .i64 q2, .bool on2, .string ⟨c2.toArray⟩, .int .i64 sh2, .int .i64 pr2, .int .i64 si2, .string ⟨st2.toArray⟩, .int .u64 sum2, .slice vb tt2.length cb] 27)
  have HB := Lib.hid (below2Z b0 b1)
  have VA := Lib.hid ((hv1.later b0).later b1)
  have VB := Lib.hid ((hv2.later b0).later b1)
  have FA := newQ w (.cells #[.int .i64 k1, .int .i64 q1, .bool on1, .string ⟨c1.toArray⟩, .int .i64 sh1, .int .i64 pr1, .int .i64 si1, .string ⟨st1.toArray⟩, .int .u64 sum1, .slice va tt1.length ca] 27)
  replace FA := upQ FA b1
  replace FA := Lib.hid FA
  have FB := newQ (w.alloc (.cells #[.int .i64 k1, .int .i64 q1, .bool on1, .string ⟨c1.toArray⟩, .int .i64 sh1, .int .i64 pr1, .int .i64 si1, .string ⟨st1.toArray⟩, .int .u64 sum1, .slice va tt1.length ca] 27)) (.cells #[.int .i64 k2, .int .i64 q2, .bool on2, .string ⟨c2.toArray⟩, .int .i64 sh2, .int .i64 pr2, .int .i64 si2, .string ⟨st2.toArray⟩, .int .u64 sum2, .slice vb tt2.length cb] 27)
  rw [World.size_alloc] at FB
  replace FB := Lib.hid FB
  clear b0 b1
  clear hv1 hv2
  go_enter Try.func5, Try.ntmps5
  obtain ⟨⟨FAc0, FAc1, FAc2, FAc3, FAc4, FAc5, FAc6, FAc7, FAc8, FAc9⟩, ⟨FAf0, FAf1, FAf2, FAf3, FAf4, FAf5, FAf6, FAf7, FAf8, FAf9⟩⟩ := blk10 FA.out
  go_wp2_with fail
  clear FAc0 FAc1 FAc2 FAc3 FAc4 FAc5 FAc6 FAc7 FAc8 FAc9 FAf0 FAf1 FAf2 FAf3 FAf4 FAf5 FAf6 FAf7 FAf8 FAf9
  refine (fewf_eq VA.out k1 q1 on1 c1 sh1 pr1 si1 st1 sum1 hc1 hs1 HF1).mono ?_
  rintro e w3 ⟨rfl, b3⟩
  replace FA := Lib.hid (upQ FA.out b3)
  replace FB := Lib.hid (upQ FB.out b3)
  replace VA := Lib.hid (VA.out.later b3)
  replace VB := Lib.hid (VB.out.later b3)
  replace HB := Lib.hid (below2Z HB.out b3)
  clear b3
  obtain ⟨⟨FBc0, FBc1, FBc2, FBc3, FBc4, FBc5, FBc6, FBc7, FBc8, FBc9⟩, ⟨FBf0, FBf1, FBf2, FBf3, FBf4, FBf5, FBf6, FBf7, FBf8, FBf9⟩⟩ := blk10 FB.out
  go_wp2_with fail
  clear FBc0 FBc1 FBc2 FBc3 FBc4 FBc5 FBc6 FBc7 FBc8 FBc9 FBf0 FBf1 FBf2 FBf3 FBf4 FBf5 FBf6 FBf7 FBf8 FBf9
  refine (fewf_eq VB.out k2 q2 on2 c2 sh2 pr2 si2 st2 sum2 hc2 hs2 HF2).mono ?_
  rintro e w4 ⟨rfl, b4⟩
  replace FA := Lib.hid (upQ FA.out b4)
  replace FB := Lib.hid (upQ FB.out b4)
  replace VA := Lib.hid (VA.out.later b4)
  replace VB := Lib.hid (VB.out.later b4)
  replace HB := Lib.hid (below2Z HB.out b4)
  clear b4
  go_wp2_with fail
  refine (live6 _).mono ?_
  rintro e w5 ⟨rfl, b5⟩
  replace FA := Lib.hid (upQ FA.out b5)
  replace FB := Lib.hid (upQ FB.out b5)
  replace VA := Lib.hid (VA.out.later b5)
  replace VB := Lib.hid (VB.out.later b5)
  replace HB := Lib.hid (below2Z HB.out b5)
  clear b5
  go_wp2_with fail
  go_ret
  exact ⟨rfl, HB.out⟩

set_option maxHeartbeats 3200000 in
set_option maxRecDepth 100000 in
theorem fwb_yyto {w : World} {v1 v2 : Value} {k1 q1 sh1 pr1 si1 : Int} {on1 : Bool} {c1 st1 : List UInt8} {sum1 : Nat} {tt1 : List Row} {k2 q2 sh2 pr2 si2 : Int} {on2 : Bool} {c2 st2 : List UInt8} {sum2 : Nat} {tt2 : List Row} (hv1 : Tab w v1 tt1) (hv2 : Tab w v2 tt2) (l : List UInt8) (hc1 : c1.length ≤ maxLen) (hs1 : st1.length ≤ maxLen) (hc2 : c2.length ≤ maxLen) (hs2 : st2.length ≤ maxLen) (HF1 : Hid (fewF ⟨k1, q1, on1, c1, ⟨sh1, pr1, si1, st1⟩, sum1, tt1⟩ = true)) (HF2 : Hid (fewF ⟨k2, q2, on2, c2, ⟨sh2, pr2, si2, st2⟩, sum2, tt2⟩ = true)) (hl : l.length ≤ 1500) (hu1 : sum1 < 18446744073709551616) (hu2 : sum2 < 18446744073709551616) {l1 : List UInt8} (hl1 : l1.length ≤ 4294967296) (HMA : Hid (frMay ⟨k1, q1, on1, c1, ⟨sh1, pr1, si1, st1⟩, sum1, tt1⟩ = true)) (HEA : Hid (frEnc ⟨k1, q1, on1, c1, ⟨sh1, pr1, si1, st1⟩, sum1, tt1⟩ = (l1, 0))) (HDA : Hid (frDec l1 = (⟨k1, q1, on1, c1, ⟨sh1, pr1, si1, st1⟩, sum1, tt1⟩, 0))) {l2 : List UInt8} (HEB : Hid (frEnc ⟨k2, q2, on2, c2, ⟨sh2, pr2, si2, st2⟩, sum2, tt2⟩ = (l2, 0))) (HLL : Hid ((l1 == l2) = true)) (HQ : Hid (frSame ⟨k1, q1, on1, c1, ⟨sh1, pr1, si1, st1⟩, sum1, tt1⟩ ⟨k2, q2, on2, c2, ⟨sh2, pr2, si2, st2⟩, sum2, tt2⟩ = true)) {k3 q3 sh3 pr3 si3 : Int} {on3 : Bool} {c3 st3 : List UInt8} {sum3 : Nat} {tt3 : List Row} (HDS : Hid (frDec l = (⟨k3, q3, on3, c3, ⟨sh3, pr3, si3, st3⟩, sum3, tt3⟩, 0))) (HEH : Hid (frEnc ⟨k3, q3, on3, c3, ⟨sh3, pr3, si3, st3⟩, sum3, tt3⟩ = (l, 0))) (HSH : Hid (Short tt3)) (m1 : c3.length ≤ 4294967296) (m2 : st3.length ≤ 4294967296) (hu3 : sum3 < 18446744073709551616) :
    Calls Try.prog 5 #[.agg #[.int .i64 k1, .int .i64 q1, .bool on1, .string ⟨c1.toArray⟩, .int .i64 sh1, .int .i64 pr1, .int .i64 si1, .string ⟨st1.toArray⟩, .int .u64 sum1, v1], .agg #[.int .i64 k2, .int .i64 q2, .bool on2, .string ⟨c2.toArray⟩, .int .i64 sh2, .int .i64 pr2, .int .i64 si2, .string ⟨st2.toArray⟩, .int .u64 sum2, v2], .string ⟨l.toArray⟩] w fun e w' => e = .returned (.bool true) ∧ Below w.heap.size w w' := by
  have tl : decide (1500 < (l.length : Int)) = false := by rw [decide_eq_false_iff_not]; omega
  have tl2 : decide (1500 < l.length) = false := by rw [decide_eq_false_iff_not]; omega
  obtain ⟨s1, n1, n2⟩ := fewF_get HF1.out
  obtain ⟨s2, n3, n4⟩ := fewF_get HF2.out
  simp only at s1 n1 n2 s2 n3 n4
  have HSA := Lib.hid s1
  have HSB := Lib.hid s2
  clear s1 s2
  have hl2 : l.length ≤ 4294967296 := by omega
  have hsn : Short [] := fun r hr => by simp at hr
  have hs1z : (⟨l.toArray⟩ : ByteArray).size = l.length := size_bytes l
  obtain ⟨va, ca, rfl, -⟩ := hv1.open'
  obtain ⟨vb, cb, rfl, -⟩ := hv2.open'
  have b0 := bl_newZ w (.cells #[.int .i64 k1, .int .i64 q1, .bool on1, .string ⟨c1.toArray⟩, .int .i64 sh1, .int .i64 pr1, .int .i64 si1, .string ⟨st1.toArray⟩, .int .u64 sum1, .slice va tt1.length ca] 27)
  have b1 := bl_newZ (w.alloc (.cells #[.int .i64 k1, .int .i64 q1, .bool on1, .string ⟨c1.toArray⟩, .int .i64 sh1, .int .i64 pr1, .int .i64 si1, .string ⟨st1.toArray⟩, .int .u64 sum1, .slice va tt1.length ca] 27)) (.cells #[.int .i64 k2, .int .i64 q2, .bool on2, .string ⟨c2.toArray⟩, .int .i64 sh2, .int .i64 pr2, .int .i64 si2, .string ⟨st2.toArray⟩, .int .u64 sum2, .slice vb tt2.length cb] 27)
  have HB := Lib.hid (below2Z b0 b1)
  have VA := Lib.hid ((hv1.later b0).later b1)
  have VB := Lib.hid ((hv2.later b0).later b1)
  have FA := newQ w (.cells #[.int .i64 k1, .int .i64 q1, .bool on1, .string ⟨c1.toArray⟩, .int .i64 sh1, .int .i64 pr1, .int .i64 si1, .string ⟨st1.toArray⟩, .int .u64 sum1, .slice va tt1.length ca] 27)
  replace FA := upQ FA b1
  replace FA := Lib.hid FA
  have FB := newQ (w.alloc (.cells #[.int .i64 k1, .int .i64 q1, .bool on1, .string ⟨c1.toArray⟩, .int .i64 sh1, .int .i64 pr1, .int .i64 si1, .string ⟨st1.toArray⟩, .int .u64 sum1, .slice va tt1.length ca] 27)) (.cells #[.int .i64 k2, .int .i64 q2, .bool on2, .string ⟨c2.toArray⟩, .int .i64 sh2, .int .i64 pr2, .int .i64 si2, .string ⟨st2.toArray⟩, .int .u64 sum2, .slice vb tt2.length cb] 27)
  rw [World.size_alloc] at FB
  replace FB := Lib.hid FB
  clear b0 b1
  clear hv1 hv2
  go_enter Try.func5, Try.ntmps5
  obtain ⟨⟨FAc0, FAc1, FAc2, FAc3, FAc4, FAc5, FAc6, FAc7, FAc8, FAc9⟩, ⟨FAf0, FAf1, FAf2, FAf3, FAf4, FAf5, FAf6, FAf7, FAf8, FAf9⟩⟩ := blk10 FA.out
  go_wp2_with fail
  clear FAc0 FAc1 FAc2 FAc3 FAc4 FAc5 FAc6 FAc7 FAc8 FAc9 FAf0 FAf1 FAf2 FAf3 FAf4 FAf5 FAf6 FAf7 FAf8 FAf9
  refine (fewf_eq VA.out k1 q1 on1 c1 sh1 pr1 si1 st1 sum1 hc1 hs1 HF1).mono ?_
  rintro e w3 ⟨rfl, b3⟩
  replace FA := Lib.hid (upQ FA.out b3)
  replace FB := Lib.hid (upQ FB.out b3)
  replace VA := Lib.hid (VA.out.later b3)
  replace VB := Lib.hid (VB.out.later b3)
  replace HB := Lib.hid (below2Z HB.out b3)
  clear b3
  obtain ⟨⟨FBc0, FBc1, FBc2, FBc3, FBc4, FBc5, FBc6, FBc7, FBc8, FBc9⟩, ⟨FBf0, FBf1, FBf2, FBf3, FBf4, FBf5, FBf6, FBf7, FBf8, FBf9⟩⟩ := blk10 FB.out
  go_wp2_with fail
  clear FBc0 FBc1 FBc2 FBc3 FBc4 FBc5 FBc6 FBc7 FBc8 FBc9 FBf0 FBf1 FBf2 FBf3 FBf4 FBf5 FBf6 FBf7 FBf8 FBf9
  refine (fewf_eq VB.out k2 q2 on2 c2 sh2 pr2 si2 st2 sum2 hc2 hs2 HF2).mono ?_
  rintro e w4 ⟨rfl, b4⟩
  replace FA := Lib.hid (upQ FA.out b4)
  replace FB := Lib.hid (upQ FB.out b4)
  replace VA := Lib.hid (VA.out.later b4)
  replace VB := Lib.hid (VB.out.later b4)
  replace HB := Lib.hid (below2Z HB.out b4)
  clear b4
  obtain ⟨⟨FAc0, FAc1, FAc2, FAc3, FAc4, FAc5, FAc6, FAc7, FAc8, FAc9⟩, ⟨FAf0, FAf1, FAf2, FAf3, FAf4, FAf5, FAf6, FAf7, FAf8, FAf9⟩⟩ := blk10 FA.out
  go_wp2_with fail
  clear FAc0 FAc1 FAc2 FAc3 FAc4 FAc5 FAc6 FAc7 FAc8 FAc9 FAf0 FAf1 FAf2 FAf3 FAf4 FAf5 FAf6 FAf7 FAf8 FAf9
  refine (frenc_any VA.out HSA.out k1 q1 on1 c1 sh1 pr1 si1 st1 sum1 hu1 n1 n2 HEA).mono ?_
  rintro e w5 ⟨rfl, b5⟩
  replace FA := Lib.hid (upQ FA.out b5)
  replace FB := Lib.hid (upQ FB.out b5)
  replace VA := Lib.hid (VA.out.later b5)
  replace VB := Lib.hid (VB.out.later b5)
  replace HB := Lib.hid (below2Z HB.out b5)
  clear b5
  obtain ⟨⟨FAc0, FAc1, FAc2, FAc3, FAc4, FAc5, FAc6, FAc7, FAc8, FAc9⟩, ⟨FAf0, FAf1, FAf2, FAf3, FAf4, FAf5, FAf6, FAf7, FAf8, FAf9⟩⟩ := blk10 FA.out
  go_wp2_with fail
  clear FAc0 FAc1 FAc2 FAc3 FAc4 FAc5 FAc6 FAc7 FAc8 FAc9 FAf0 FAf1 FAf2 FAf3 FAf4 FAf5 FAf6 FAf7 FAf8 FAf9
  refine (frmay_eqF VA.out HSA.out n1 n2 HMA).mono ?_
  rintro e w6 ⟨rfl, b6⟩
  replace FA := Lib.hid (upQ FA.out b6)
  replace FB := Lib.hid (upQ FB.out b6)
  replace VA := Lib.hid (VA.out.later b6)
  replace VB := Lib.hid (VB.out.later b6)
  replace HB := Lib.hid (below2Z HB.out b6)
  clear b6
  go_wp2_with fail
  refine (frdec_any l1 hl1 HDA _).mono ?_
  rintro e w7 ⟨v7, rfl, hov7, b7⟩
  replace FA := Lib.hid (upQ FA.out b7)
  replace FB := Lib.hid (upQ FB.out b7)
  replace VA := Lib.hid (VA.out.later b7)
  replace VB := Lib.hid (VB.out.later b7)
  replace HB := Lib.hid (below2Z HB.out b7)
  obtain ⟨va7, vc7, rfl, -⟩ := Tab.open' (OwnR.tab hov7)
  have VG := Lib.hid (OwnR.tab hov7)
  clear hov7
  clear b7
  obtain ⟨⟨FAc0, FAc1, FAc2, FAc3, FAc4, FAc5, FAc6, FAc7, FAc8, FAc9⟩, ⟨FAf0, FAf1, FAf2, FAf3, FAf4, FAf5, FAf6, FAf7, FAf8, FAf9⟩⟩ := blk10 FA.out
  have hAl := (Array.getElem?_eq_some_iff.1 FA.out).1
  go_wp2_with fail
  clear FAc0 FAc1 FAc2 FAc3 FAc4 FAc5 FAc6 FAc7 FAc8 FAc9 FAf0 FAf1 FAf2 FAf3 FAf4 FAf5 FAf6 FAf7 FAf8 FAf9 hAl
  have b8 := bl_newZ w7 (.cells #[.int .i64 k1, .int .i64 q1, .bool on1, .string ⟨c1.toArray⟩, .int .i64 sh1, .int .i64 pr1, .int .i64 si1, .string ⟨st1.toArray⟩, .int .u64 sum1, .slice va7 tt1.length vc7] 27)
  have G := newQ w7 (.cells #[.int .i64 k1, .int .i64 q1, .bool on1, .string ⟨c1.toArray⟩, .int .i64 sh1, .int .i64 pr1, .int .i64 si1, .string ⟨st1.toArray⟩, .int .u64 sum1, .slice va7 tt1.length vc7] 27)
  have hG : w.heap.size ≤ w7.heap.size := HB.out.size
  replace FA := Lib.hid (upQ FA.out b8)
  replace FB := Lib.hid (upQ FB.out b8)
  replace VA := Lib.hid (VA.out.later b8)
  replace VB := Lib.hid (VB.out.later b8)
  replace VG := Lib.hid (Tab.later VG.out b8)
  replace HB := Lib.hid (below2Z HB.out b8)
  clear b8
  replace G := Lib.hid G
  generalize w7.alloc (.cells #[.int .i64 k1, .int .i64 q1, .bool on1, .string ⟨c1.toArray⟩, .int .i64 sh1, .int .i64 pr1, .int .i64 si1, .string ⟨st1.toArray⟩, .int .u64 sum1, .slice va7 tt1.length vc7] 27) = w9 at FA FB G VA VB VG HB ⊢
  generalize w7.heap.size = BG at G hG ⊢
  refine (frsame_eqF VG.out VA.out (Lib.hid (frSame_iff.2 rfl))).mono ?_
  rintro e w10 ⟨rfl, b10⟩
  replace FA := Lib.hid (upQ FA.out b10)
  replace FB := Lib.hid (upQ FB.out b10)
  replace G := Lib.hid (upQ G.out b10)
  replace VA := Lib.hid (VA.out.later b10)
  replace VB := Lib.hid (VB.out.later b10)
  replace VG := Lib.hid (Tab.later VG.out b10)
  replace HB := Lib.hid (below2Z HB.out b10)
  clear b10
  obtain ⟨⟨FBc0, FBc1, FBc2, FBc3, FBc4, FBc5, FBc6, FBc7, FBc8, FBc9⟩, ⟨FBf0, FBf1, FBf2, FBf3, FBf4, FBf5, FBf6, FBf7, FBf8, FBf9⟩⟩ := blk10 FB.out
  go_wp2_with fail
  clear FBc0 FBc1 FBc2 FBc3 FBc4 FBc5 FBc6 FBc7 FBc8 FBc9 FBf0 FBf1 FBf2 FBf3 FBf4 FBf5 FBf6 FBf7 FBf8 FBf9
  refine (frenc_any VB.out HSB.out k2 q2 on2 c2 sh2 pr2 si2 st2 sum2 hu2 n3 n4 HEB).mono ?_
  rintro e w11 ⟨rfl, b11⟩
  replace FA := Lib.hid (upQ FA.out b11)
  replace FB := Lib.hid (upQ FB.out b11)
  replace G := Lib.hid (upQ G.out b11)
  replace VA := Lib.hid (VA.out.later b11)
  replace VB := Lib.hid (VB.out.later b11)
  replace VG := Lib.hid (Tab.later VG.out b11)
  replace HB := Lib.hid (below2Z HB.out b11)
  clear b11
  obtain ⟨⟨FAc0, FAc1, FAc2, FAc3, FAc4, FAc5, FAc6, FAc7, FAc8, FAc9⟩, ⟨FAf0, FAf1, FAf2, FAf3, FAf4, FAf5, FAf6, FAf7, FAf8, FAf9⟩⟩ := blk10 FA.out
  obtain ⟨⟨FBc0, FBc1, FBc2, FBc3, FBc4, FBc5, FBc6, FBc7, FBc8, FBc9⟩, ⟨FBf0, FBf1, FBf2, FBf3, FBf4, FBf5, FBf6, FBf7, FBf8, FBf9⟩⟩ := blk10 FB.out
  have hll := HLL.out
  go_wp2_with fail
  clear FAc0 FAc1 FAc2 FAc3 FAc4 FAc5 FAc6 FAc7 FAc8 FAc9 FAf0 FAf1 FAf2 FAf3 FAf4 FAf5 FAf6 FAf7 FAf8 FAf9 FBc0 FBc1 FBc2 FBc3 FBc4 FBc5 FBc6 FBc7 FBc8 FBc9 FBf0 FBf1 FBf2 FBf3 FBf4 FBf5 FBf6 FBf7 FBf8 FBf9 hll
  refine (frsame_eqF VA.out VB.out HQ).mono ?_
  rintro e w12 ⟨rfl, b12⟩
  replace FA := Lib.hid (upQ FA.out b12)
  replace FB := Lib.hid (upQ FB.out b12)
  replace G := Lib.hid (upQ G.out b12)
  replace VA := Lib.hid (VA.out.later b12)
  replace VB := Lib.hid (VB.out.later b12)
  replace VG := Lib.hid (Tab.later VG.out b12)
  replace HB := Lib.hid (below2Z HB.out b12)
  clear b12
  go_wp2_with fail
  refine (frdec_any l hl2 HDS _).mono ?_
  rintro e w13 ⟨v13, rfl, hov13, b13⟩
  replace FA := Lib.hid (upQ FA.out b13)
  replace FB := Lib.hid (upQ FB.out b13)
  replace G := Lib.hid (upQ G.out b13)
  replace VA := Lib.hid (VA.out.later b13)
  replace VB := Lib.hid (VB.out.later b13)
  replace VG := Lib.hid (Tab.later VG.out b13)
  replace HB := Lib.hid (below2Z HB.out b13)
  obtain ⟨va13, vc13, rfl, -⟩ := Tab.open' (OwnR.tab hov13)
  have VH := Lib.hid (OwnR.tab hov13)
  clear hov13
  clear b13
  go_wp2_with fail
  have b14 := bl_newZ w13 (.cells #[.int .i64 k3, .int .i64 q3, .bool on3, .string ⟨c3.toArray⟩, .int .i64 sh3, .int .i64 pr3, .int .i64 si3, .string ⟨st3.toArray⟩, .int .u64 sum3, .slice va13 tt3.length vc13] 27)
  have H := newQ w13 (.cells #[.int .i64 k3, .int .i64 q3, .bool on3, .string ⟨c3.toArray⟩, .int .i64 sh3, .int .i64 pr3, .int .i64 si3, .string ⟨st3.toArray⟩, .int .u64 sum3, .slice va13 tt3.length vc13] 27)
  have hH : w.heap.size ≤ w13.heap.size := HB.out.size
  replace FA := Lib.hid (upQ FA.out b14)
  replace FB := Lib.hid (upQ FB.out b14)
  replace G := Lib.hid (upQ G.out b14)
  replace VA := Lib.hid (VA.out.later b14)
  replace VB := Lib.hid (VB.out.later b14)
  replace VG := Lib.hid (Tab.later VG.out b14)
  replace VH := Lib.hid (Tab.later VH.out b14)
  replace HB := Lib.hid (below2Z HB.out b14)
  clear b14
  replace H := Lib.hid H
  generalize w13.alloc (.cells #[.int .i64 k3, .int .i64 q3, .bool on3, .string ⟨c3.toArray⟩, .int .i64 sh3, .int .i64 pr3, .int .i64 si3, .string ⟨st3.toArray⟩, .int .u64 sum3, .slice va13 tt3.length vc13] 27) = w15 at FA FB G H VA VB VG VH HB ⊢
  generalize w13.heap.size = BH at H hH ⊢
  refine (frenc_any VH.out HSH.out k3 q3 on3 c3 sh3 pr3 si3 st3 sum3 hu3 m1 m2 HEH).mono ?_
  rintro e w16 ⟨rfl, b16⟩
  replace FA := Lib.hid (upQ FA.out b16)
  replace FB := Lib.hid (upQ FB.out b16)
  replace G := Lib.hid (upQ G.out b16)
  replace H := Lib.hid (upQ H.out b16)
  replace VA := Lib.hid (VA.out.later b16)
  replace VB := Lib.hid (VB.out.later b16)
  replace VG := Lib.hid (Tab.later VG.out b16)
  replace VH := Lib.hid (Tab.later VH.out b16)
  replace HB := Lib.hid (below2Z HB.out b16)
  clear b16
  go_wp2_with fail
  refine (live6 _).mono ?_
  rintro e w17 ⟨rfl, b17⟩
  replace FA := Lib.hid (upQ FA.out b17)
  replace FB := Lib.hid (upQ FB.out b17)
  replace G := Lib.hid (upQ G.out b17)
  replace H := Lib.hid (upQ H.out b17)
  replace VA := Lib.hid (VA.out.later b17)
  replace VB := Lib.hid (VB.out.later b17)
  replace VG := Lib.hid (Tab.later VG.out b17)
  replace VH := Lib.hid (Tab.later VH.out b17)
  replace HB := Lib.hid (below2Z HB.out b17)
  clear b17
  go_wp2_with fail
  go_ret
  exact ⟨rfl, HB.out⟩

set_option maxHeartbeats 3200000 in
set_option maxRecDepth 100000 in
theorem fwb_yyte {w : World} {v1 v2 : Value} {k1 q1 sh1 pr1 si1 : Int} {on1 : Bool} {c1 st1 : List UInt8} {sum1 : Nat} {tt1 : List Row} {k2 q2 sh2 pr2 si2 : Int} {on2 : Bool} {c2 st2 : List UInt8} {sum2 : Nat} {tt2 : List Row} (hv1 : Tab w v1 tt1) (hv2 : Tab w v2 tt2) (l : List UInt8) (hc1 : c1.length ≤ maxLen) (hs1 : st1.length ≤ maxLen) (hc2 : c2.length ≤ maxLen) (hs2 : st2.length ≤ maxLen) (HF1 : Hid (fewF ⟨k1, q1, on1, c1, ⟨sh1, pr1, si1, st1⟩, sum1, tt1⟩ = true)) (HF2 : Hid (fewF ⟨k2, q2, on2, c2, ⟨sh2, pr2, si2, st2⟩, sum2, tt2⟩ = true)) (hl : l.length ≤ 1500) (hu1 : sum1 < 18446744073709551616) (hu2 : sum2 < 18446744073709551616) {l1 : List UInt8} (hl1 : l1.length ≤ 4294967296) (HMA : Hid (frMay ⟨k1, q1, on1, c1, ⟨sh1, pr1, si1, st1⟩, sum1, tt1⟩ = true)) (HEA : Hid (frEnc ⟨k1, q1, on1, c1, ⟨sh1, pr1, si1, st1⟩, sum1, tt1⟩ = (l1, 0))) (HDA : Hid (frDec l1 = (⟨k1, q1, on1, c1, ⟨sh1, pr1, si1, st1⟩, sum1, tt1⟩, 0))) {l2 : List UInt8} (HEB : Hid (frEnc ⟨k2, q2, on2, c2, ⟨sh2, pr2, si2, st2⟩, sum2, tt2⟩ = (l2, 0))) (HLL : Hid ((l1 == l2) = true)) (HQ : Hid (frSame ⟨k1, q1, on1, c1, ⟨sh1, pr1, si1, st1⟩, sum1, tt1⟩ ⟨k2, q2, on2, c2, ⟨sh2, pr2, si2, st2⟩, sum2, tt2⟩ = true)) {e4 : Nat} (HDS : Hid (frDec l = (⟨0, 0, false, [], ⟨0, 0, 0, []⟩, 0, []⟩, e4))) (he4 : e4 ≠ 0) :
    Calls Try.prog 5 #[.agg #[.int .i64 k1, .int .i64 q1, .bool on1, .string ⟨c1.toArray⟩, .int .i64 sh1, .int .i64 pr1, .int .i64 si1, .string ⟨st1.toArray⟩, .int .u64 sum1, v1], .agg #[.int .i64 k2, .int .i64 q2, .bool on2, .string ⟨c2.toArray⟩, .int .i64 sh2, .int .i64 pr2, .int .i64 si2, .string ⟨st2.toArray⟩, .int .u64 sum2, v2], .string ⟨l.toArray⟩] w fun e w' => e = .returned (.bool true) ∧ Below w.heap.size w w' := by
  have tl : decide (1500 < (l.length : Int)) = false := by rw [decide_eq_false_iff_not]; omega
  have tl2 : decide (1500 < l.length) = false := by rw [decide_eq_false_iff_not]; omega
  obtain ⟨s1, n1, n2⟩ := fewF_get HF1.out
  obtain ⟨s2, n3, n4⟩ := fewF_get HF2.out
  simp only at s1 n1 n2 s2 n3 n4
  have HSA := Lib.hid s1
  have HSB := Lib.hid s2
  clear s1 s2
  have hl2 : l.length ≤ 4294967296 := by omega
  have hsn : Short [] := fun r hr => by simp at hr
  have t4 : ((e4 : Int) != 0) = true := by simp; omega
  clear he4
  have hs1z : (⟨l.toArray⟩ : ByteArray).size = l.length := size_bytes l
  obtain ⟨va, ca, rfl, -⟩ := hv1.open'
  obtain ⟨vb, cb, rfl, -⟩ := hv2.open'
  have b0 := bl_newZ w (.cells #[.int .i64 k1, .int .i64 q1, .bool on1, .string ⟨c1.toArray⟩, .int .i64 sh1, .int .i64 pr1, .int .i64 si1, .string ⟨st1.toArray⟩, .int .u64 sum1, .slice va tt1.length ca] 27)
  have b1 := bl_newZ (w.alloc (.cells #[.int .i64 k1, .int .i64 q1, .bool on1, .string ⟨c1.toArray⟩, .int .i64 sh1, .int .i64 pr1, .int .i64 si1, .string ⟨st1.toArray⟩, .int .u64 sum1, .slice va tt1.length ca] 27)) (.cells #[.int .i64 k2, .int .i64 q2, .bool on2, .string ⟨c2.toArray⟩, .int .i64 sh2, .int .i64 pr2, .int .i64 si2, .string ⟨st2.toArray⟩, .int .u64 sum2, .slice vb tt2.length cb] 27)
  have HB := Lib.hid (below2Z b0 b1)
  have VA := Lib.hid ((hv1.later b0).later b1)
  have VB := Lib.hid ((hv2.later b0).later b1)
  have FA := newQ w (.cells #[.int .i64 k1, .int .i64 q1, .bool on1, .string ⟨c1.toArray⟩, .int .i64 sh1, .int .i64 pr1, .int .i64 si1, .string ⟨st1.toArray⟩, .int .u64 sum1, .slice va tt1.length ca] 27)
  replace FA := upQ FA b1
  replace FA := Lib.hid FA
  have FB := newQ (w.alloc (.cells #[.int .i64 k1, .int .i64 q1, .bool on1, .string ⟨c1.toArray⟩, .int .i64 sh1, .int .i64 pr1, .int .i64 si1, .string ⟨st1.toArray⟩, .int .u64 sum1, .slice va tt1.length ca] 27)) (.cells #[.int .i64 k2, .int .i64 q2, .bool on2, .string ⟨c2.toArray⟩, .int .i64 sh2, .int .i64 pr2, .int .i64 si2, .string ⟨st2.toArray⟩, .int .u64 sum2, .slice vb tt2.length cb] 27)
  rw [World.size_alloc] at FB
  replace FB := Lib.hid FB
  clear b0 b1
  clear hv1 hv2
  go_enter Try.func5, Try.ntmps5
  obtain ⟨⟨FAc0, FAc1, FAc2, FAc3, FAc4, FAc5, FAc6, FAc7, FAc8, FAc9⟩, ⟨FAf0, FAf1, FAf2, FAf3, FAf4, FAf5, FAf6, FAf7, FAf8, FAf9⟩⟩ := blk10 FA.out
  go_wp2_with fail
  clear FAc0 FAc1 FAc2 FAc3 FAc4 FAc5 FAc6 FAc7 FAc8 FAc9 FAf0 FAf1 FAf2 FAf3 FAf4 FAf5 FAf6 FAf7 FAf8 FAf9
  refine (fewf_eq VA.out k1 q1 on1 c1 sh1 pr1 si1 st1 sum1 hc1 hs1 HF1).mono ?_
  rintro e w3 ⟨rfl, b3⟩
  replace FA := Lib.hid (upQ FA.out b3)
  replace FB := Lib.hid (upQ FB.out b3)
  replace VA := Lib.hid (VA.out.later b3)
  replace VB := Lib.hid (VB.out.later b3)
  replace HB := Lib.hid (below2Z HB.out b3)
  clear b3
  obtain ⟨⟨FBc0, FBc1, FBc2, FBc3, FBc4, FBc5, FBc6, FBc7, FBc8, FBc9⟩, ⟨FBf0, FBf1, FBf2, FBf3, FBf4, FBf5, FBf6, FBf7, FBf8, FBf9⟩⟩ := blk10 FB.out
  go_wp2_with fail
  clear FBc0 FBc1 FBc2 FBc3 FBc4 FBc5 FBc6 FBc7 FBc8 FBc9 FBf0 FBf1 FBf2 FBf3 FBf4 FBf5 FBf6 FBf7 FBf8 FBf9
  refine (fewf_eq VB.out k2 q2 on2 c2 sh2 pr2 si2 st2 sum2 hc2 hs2 HF2).mono ?_
  rintro e w4 ⟨rfl, b4⟩
  replace FA := Lib.hid (upQ FA.out b4)
  replace FB := Lib.hid (upQ FB.out b4)
  replace VA := Lib.hid (VA.out.later b4)
  replace VB := Lib.hid (VB.out.later b4)
  replace HB := Lib.hid (below2Z HB.out b4)
  clear b4
  obtain ⟨⟨FAc0, FAc1, FAc2, FAc3, FAc4, FAc5, FAc6, FAc7, FAc8, FAc9⟩, ⟨FAf0, FAf1, FAf2, FAf3, FAf4, FAf5, FAf6, FAf7, FAf8, FAf9⟩⟩ := blk10 FA.out
  go_wp2_with fail
  clear FAc0 FAc1 FAc2 FAc3 FAc4 FAc5 FAc6 FAc7 FAc8 FAc9 FAf0 FAf1 FAf2 FAf3 FAf4 FAf5 FAf6 FAf7 FAf8 FAf9
  refine (frenc_any VA.out HSA.out k1 q1 on1 c1 sh1 pr1 si1 st1 sum1 hu1 n1 n2 HEA).mono ?_
  rintro e w5 ⟨rfl, b5⟩
  replace FA := Lib.hid (upQ FA.out b5)
  replace FB := Lib.hid (upQ FB.out b5)
  replace VA := Lib.hid (VA.out.later b5)
  replace VB := Lib.hid (VB.out.later b5)
  replace HB := Lib.hid (below2Z HB.out b5)
  clear b5
  obtain ⟨⟨FAc0, FAc1, FAc2, FAc3, FAc4, FAc5, FAc6, FAc7, FAc8, FAc9⟩, ⟨FAf0, FAf1, FAf2, FAf3, FAf4, FAf5, FAf6, FAf7, FAf8, FAf9⟩⟩ := blk10 FA.out
  go_wp2_with fail
  clear FAc0 FAc1 FAc2 FAc3 FAc4 FAc5 FAc6 FAc7 FAc8 FAc9 FAf0 FAf1 FAf2 FAf3 FAf4 FAf5 FAf6 FAf7 FAf8 FAf9
  refine (frmay_eqF VA.out HSA.out n1 n2 HMA).mono ?_
  rintro e w6 ⟨rfl, b6⟩
  replace FA := Lib.hid (upQ FA.out b6)
  replace FB := Lib.hid (upQ FB.out b6)
  replace VA := Lib.hid (VA.out.later b6)
  replace VB := Lib.hid (VB.out.later b6)
  replace HB := Lib.hid (below2Z HB.out b6)
  clear b6
  go_wp2_with fail
  refine (frdec_any l1 hl1 HDA _).mono ?_
  rintro e w7 ⟨v7, rfl, hov7, b7⟩
  replace FA := Lib.hid (upQ FA.out b7)
  replace FB := Lib.hid (upQ FB.out b7)
  replace VA := Lib.hid (VA.out.later b7)
  replace VB := Lib.hid (VB.out.later b7)
  replace HB := Lib.hid (below2Z HB.out b7)
  obtain ⟨va7, vc7, rfl, -⟩ := Tab.open' (OwnR.tab hov7)
  have VG := Lib.hid (OwnR.tab hov7)
  clear hov7
  clear b7
  obtain ⟨⟨FAc0, FAc1, FAc2, FAc3, FAc4, FAc5, FAc6, FAc7, FAc8, FAc9⟩, ⟨FAf0, FAf1, FAf2, FAf3, FAf4, FAf5, FAf6, FAf7, FAf8, FAf9⟩⟩ := blk10 FA.out
  have hAl := (Array.getElem?_eq_some_iff.1 FA.out).1
  go_wp2_with fail
  clear FAc0 FAc1 FAc2 FAc3 FAc4 FAc5 FAc6 FAc7 FAc8 FAc9 FAf0 FAf1 FAf2 FAf3 FAf4 FAf5 FAf6 FAf7 FAf8 FAf9 hAl
  have b8 := bl_newZ w7 (.cells #[.int .i64 k1, .int .i64 q1, .bool on1, .string ⟨c1.toArray⟩, .int .i64 sh1, .int .i64 pr1, .int .i64 si1, .string ⟨st1.toArray⟩, .int .u64 sum1, .slice va7 tt1.length vc7] 27)
  have G := newQ w7 (.cells #[.int .i64 k1, .int .i64 q1, .bool on1, .string ⟨c1.toArray⟩, .int .i64 sh1, .int .i64 pr1, .int .i64 si1, .string ⟨st1.toArray⟩, .int .u64 sum1, .slice va7 tt1.length vc7] 27)
  have hG : w.heap.size ≤ w7.heap.size := HB.out.size
  replace FA := Lib.hid (upQ FA.out b8)
  replace FB := Lib.hid (upQ FB.out b8)
  replace VA := Lib.hid (VA.out.later b8)
  replace VB := Lib.hid (VB.out.later b8)
  replace VG := Lib.hid (Tab.later VG.out b8)
  replace HB := Lib.hid (below2Z HB.out b8)
  clear b8
  replace G := Lib.hid G
  generalize w7.alloc (.cells #[.int .i64 k1, .int .i64 q1, .bool on1, .string ⟨c1.toArray⟩, .int .i64 sh1, .int .i64 pr1, .int .i64 si1, .string ⟨st1.toArray⟩, .int .u64 sum1, .slice va7 tt1.length vc7] 27) = w9 at FA FB G VA VB VG HB ⊢
  generalize w7.heap.size = BG at G hG ⊢
  refine (frsame_eqF VG.out VA.out (Lib.hid (frSame_iff.2 rfl))).mono ?_
  rintro e w10 ⟨rfl, b10⟩
  replace FA := Lib.hid (upQ FA.out b10)
  replace FB := Lib.hid (upQ FB.out b10)
  replace G := Lib.hid (upQ G.out b10)
  replace VA := Lib.hid (VA.out.later b10)
  replace VB := Lib.hid (VB.out.later b10)
  replace VG := Lib.hid (Tab.later VG.out b10)
  replace HB := Lib.hid (below2Z HB.out b10)
  clear b10
  obtain ⟨⟨FBc0, FBc1, FBc2, FBc3, FBc4, FBc5, FBc6, FBc7, FBc8, FBc9⟩, ⟨FBf0, FBf1, FBf2, FBf3, FBf4, FBf5, FBf6, FBf7, FBf8, FBf9⟩⟩ := blk10 FB.out
  go_wp2_with fail
  clear FBc0 FBc1 FBc2 FBc3 FBc4 FBc5 FBc6 FBc7 FBc8 FBc9 FBf0 FBf1 FBf2 FBf3 FBf4 FBf5 FBf6 FBf7 FBf8 FBf9
  refine (frenc_any VB.out HSB.out k2 q2 on2 c2 sh2 pr2 si2 st2 sum2 hu2 n3 n4 HEB).mono ?_
  rintro e w11 ⟨rfl, b11⟩
  replace FA := Lib.hid (upQ FA.out b11)
  replace FB := Lib.hid (upQ FB.out b11)
  replace G := Lib.hid (upQ G.out b11)
  replace VA := Lib.hid (VA.out.later b11)
  replace VB := Lib.hid (VB.out.later b11)
  replace VG := Lib.hid (Tab.later VG.out b11)
  replace HB := Lib.hid (below2Z HB.out b11)
  clear b11
  obtain ⟨⟨FAc0, FAc1, FAc2, FAc3, FAc4, FAc5, FAc6, FAc7, FAc8, FAc9⟩, ⟨FAf0, FAf1, FAf2, FAf3, FAf4, FAf5, FAf6, FAf7, FAf8, FAf9⟩⟩ := blk10 FA.out
  obtain ⟨⟨FBc0, FBc1, FBc2, FBc3, FBc4, FBc5, FBc6, FBc7, FBc8, FBc9⟩, ⟨FBf0, FBf1, FBf2, FBf3, FBf4, FBf5, FBf6, FBf7, FBf8, FBf9⟩⟩ := blk10 FB.out
  have hll := HLL.out
  go_wp2_with fail
  clear FAc0 FAc1 FAc2 FAc3 FAc4 FAc5 FAc6 FAc7 FAc8 FAc9 FAf0 FAf1 FAf2 FAf3 FAf4 FAf5 FAf6 FAf7 FAf8 FAf9 FBc0 FBc1 FBc2 FBc3 FBc4 FBc5 FBc6 FBc7 FBc8 FBc9 FBf0 FBf1 FBf2 FBf3 FBf4 FBf5 FBf6 FBf7 FBf8 FBf9 hll
  refine (frsame_eqF VA.out VB.out HQ).mono ?_
  rintro e w12 ⟨rfl, b12⟩
  replace FA := Lib.hid (upQ FA.out b12)
  replace FB := Lib.hid (upQ FB.out b12)
  replace G := Lib.hid (upQ G.out b12)
  replace VA := Lib.hid (VA.out.later b12)
  replace VB := Lib.hid (VB.out.later b12)
  replace VG := Lib.hid (Tab.later VG.out b12)
  replace HB := Lib.hid (below2Z HB.out b12)
  clear b12
  go_wp2_with fail
  refine (frdec_any l hl2 HDS _).mono ?_
  rintro e w13 ⟨v13, rfl, hov13, b13⟩
  replace FA := Lib.hid (upQ FA.out b13)
  replace FB := Lib.hid (upQ FB.out b13)
  replace G := Lib.hid (upQ G.out b13)
  replace VA := Lib.hid (VA.out.later b13)
  replace VB := Lib.hid (VB.out.later b13)
  replace VG := Lib.hid (Tab.later VG.out b13)
  replace HB := Lib.hid (below2Z HB.out b13)
  obtain ⟨va13, vc13, rfl, -⟩ := Tab.open' (OwnR.tab hov13)
  have VH := Lib.hid (OwnR.tab hov13)
  clear hov13
  clear b13
  go_wp2_with fail
  have b14 := bl_newZ w13 (.cells #[.int .i64 0, .int .i64 0, .bool false, .string ⟨#[]⟩, .int .i64 0, .int .i64 0, .int .i64 0, .string ⟨#[]⟩, .int .u64 0, .slice va13 0 vc13] 27)
  have H := newQ w13 (.cells #[.int .i64 0, .int .i64 0, .bool false, .string ⟨#[]⟩, .int .i64 0, .int .i64 0, .int .i64 0, .string ⟨#[]⟩, .int .u64 0, .slice va13 0 vc13] 27)
  have hH : w.heap.size ≤ w13.heap.size := HB.out.size
  replace FA := Lib.hid (upQ FA.out b14)
  replace FB := Lib.hid (upQ FB.out b14)
  replace G := Lib.hid (upQ G.out b14)
  replace VA := Lib.hid (VA.out.later b14)
  replace VB := Lib.hid (VB.out.later b14)
  replace VG := Lib.hid (Tab.later VG.out b14)
  replace VH := Lib.hid (Tab.later VH.out b14)
  replace HB := Lib.hid (below2Z HB.out b14)
  clear b14
  replace H := Lib.hid H
  generalize w13.alloc (.cells #[.int .i64 0, .int .i64 0, .bool false, .string ⟨#[]⟩, .int .i64 0, .int .i64 0, .int .i64 0, .string ⟨#[]⟩, .int .u64 0, .slice va13 0 vc13] 27) = w15 at FA FB G H VA VB VG VH HB ⊢
  generalize w13.heap.size = BH at H hH ⊢
  refine (frenc_any VH.out hsn 0 0 false [] 0 0 0 [] 0 (by decide) (by decide) (by decide) (Lib.hid fwb_zero)).mono ?_
  rintro e w16 ⟨rfl, b16⟩
  replace FA := Lib.hid (upQ FA.out b16)
  replace FB := Lib.hid (upQ FB.out b16)
  replace G := Lib.hid (upQ G.out b16)
  replace H := Lib.hid (upQ H.out b16)
  replace VA := Lib.hid (VA.out.later b16)
  replace VB := Lib.hid (VB.out.later b16)
  replace VG := Lib.hid (Tab.later VG.out b16)
  replace VH := Lib.hid (Tab.later VH.out b16)
  replace HB := Lib.hid (below2Z HB.out b16)
  clear b16
  obtain ⟨⟨Hc0, Hc1, Hc2, Hc3, Hc4, Hc5, Hc6, Hc7, Hc8, Hc9⟩, ⟨Hf0, Hf1, Hf2, Hf3, Hf4, Hf5, Hf6, Hf7, Hf8, Hf9⟩⟩ := blk10 H.out
  go_wp2_with fail
  clear Hc0 Hc1 Hc2 Hc3 Hc4 Hc5 Hc6 Hc7 Hc8 Hc9 Hf0 Hf1 Hf2 Hf3 Hf4 Hf5 Hf6 Hf7 Hf8 Hf9
  refine (frsame_eqF VH.out (OwnR.tab (ownR_nil _ 0)) (Lib.hid (frSame_iff.2 rfl))).mono ?_
  rintro e w17 ⟨rfl, b17⟩
  replace FA := Lib.hid (upQ FA.out b17)
  replace FB := Lib.hid (upQ FB.out b17)
  replace G := Lib.hid (upQ G.out b17)
  replace H := Lib.hid (upQ H.out b17)
  replace VA := Lib.hid (VA.out.later b17)
  replace VB := Lib.hid (VB.out.later b17)
  replace VG := Lib.hid (Tab.later VG.out b17)
  replace VH := Lib.hid (Tab.later VH.out b17)
  replace HB := Lib.hid (below2Z HB.out b17)
  clear b17
  go_wp2_with fail
  refine (live6 _).mono ?_
  rintro e w18 ⟨rfl, b18⟩
  replace FA := Lib.hid (upQ FA.out b18)
  replace FB := Lib.hid (upQ FB.out b18)
  replace G := Lib.hid (upQ G.out b18)
  replace H := Lib.hid (upQ H.out b18)
  replace VA := Lib.hid (VA.out.later b18)
  replace VB := Lib.hid (VB.out.later b18)
  replace VG := Lib.hid (Tab.later VG.out b18)
  replace VH := Lib.hid (Tab.later VH.out b18)
  replace HB := Lib.hid (below2Z HB.out b18)
  clear b18
  go_wp2_with fail
  go_ret
  exact ⟨rfl, HB.out⟩

set_option maxHeartbeats 3200000 in
set_option maxRecDepth 100000 in
theorem fwb_yyfo {w : World} {v1 v2 : Value} {k1 q1 sh1 pr1 si1 : Int} {on1 : Bool} {c1 st1 : List UInt8} {sum1 : Nat} {tt1 : List Row} {k2 q2 sh2 pr2 si2 : Int} {on2 : Bool} {c2 st2 : List UInt8} {sum2 : Nat} {tt2 : List Row} (hv1 : Tab w v1 tt1) (hv2 : Tab w v2 tt2) (l : List UInt8) (hc1 : c1.length ≤ maxLen) (hs1 : st1.length ≤ maxLen) (hc2 : c2.length ≤ maxLen) (hs2 : st2.length ≤ maxLen) (HF1 : Hid (fewF ⟨k1, q1, on1, c1, ⟨sh1, pr1, si1, st1⟩, sum1, tt1⟩ = true)) (HF2 : Hid (fewF ⟨k2, q2, on2, c2, ⟨sh2, pr2, si2, st2⟩, sum2, tt2⟩ = true)) (hl : l.length ≤ 1500) (hu1 : sum1 < 18446744073709551616) (hu2 : sum2 < 18446744073709551616) {l1 : List UInt8} (hl1 : l1.length ≤ 4294967296) (HMA : Hid (frMay ⟨k1, q1, on1, c1, ⟨sh1, pr1, si1, st1⟩, sum1, tt1⟩ = true)) (HEA : Hid (frEnc ⟨k1, q1, on1, c1, ⟨sh1, pr1, si1, st1⟩, sum1, tt1⟩ = (l1, 0))) (HDA : Hid (frDec l1 = (⟨k1, q1, on1, c1, ⟨sh1, pr1, si1, st1⟩, sum1, tt1⟩, 0))) {l2 : List UInt8} (HEB : Hid (frEnc ⟨k2, q2, on2, c2, ⟨sh2, pr2, si2, st2⟩, sum2, tt2⟩ = (l2, 0))) (HLL : Hid ((l1 == l2) = false)) (HQ : Hid (frSame ⟨k1, q1, on1, c1, ⟨sh1, pr1, si1, st1⟩, sum1, tt1⟩ ⟨k2, q2, on2, c2, ⟨sh2, pr2, si2, st2⟩, sum2, tt2⟩ = false)) {k3 q3 sh3 pr3 si3 : Int} {on3 : Bool} {c3 st3 : List UInt8} {sum3 : Nat} {tt3 : List Row} (HDS : Hid (frDec l = (⟨k3, q3, on3, c3, ⟨sh3, pr3, si3, st3⟩, sum3, tt3⟩, 0))) (HEH : Hid (frEnc ⟨k3, q3, on3, c3, ⟨sh3, pr3, si3, st3⟩, sum3, tt3⟩ = (l, 0))) (HSH : Hid (Short tt3)) (m1 : c3.length ≤ 4294967296) (m2 : st3.length ≤ 4294967296) (hu3 : sum3 < 18446744073709551616) :
    Calls Try.prog 5 #[.agg #[.int .i64 k1, .int .i64 q1, .bool on1, .string ⟨c1.toArray⟩, .int .i64 sh1, .int .i64 pr1, .int .i64 si1, .string ⟨st1.toArray⟩, .int .u64 sum1, v1], .agg #[.int .i64 k2, .int .i64 q2, .bool on2, .string ⟨c2.toArray⟩, .int .i64 sh2, .int .i64 pr2, .int .i64 si2, .string ⟨st2.toArray⟩, .int .u64 sum2, v2], .string ⟨l.toArray⟩] w fun e w' => e = .returned (.bool true) ∧ Below w.heap.size w w' := by
  have tl : decide (1500 < (l.length : Int)) = false := by rw [decide_eq_false_iff_not]; omega
  have tl2 : decide (1500 < l.length) = false := by rw [decide_eq_false_iff_not]; omega
  obtain ⟨s1, n1, n2⟩ := fewF_get HF1.out
  obtain ⟨s2, n3, n4⟩ := fewF_get HF2.out
  simp only at s1 n1 n2 s2 n3 n4
  have HSA := Lib.hid s1
  have HSB := Lib.hid s2
  clear s1 s2
  have hl2 : l.length ≤ 4294967296 := by omega
  have hsn : Short [] := fun r hr => by simp at hr
  have hs1z : (⟨l.toArray⟩ : ByteArray).size = l.length := size_bytes l
  obtain ⟨va, ca, rfl, -⟩ := hv1.open'
  obtain ⟨vb, cb, rfl, -⟩ := hv2.open'
  have b0 := bl_newZ w (.cells #[.int .i64 k1, .int .i64 q1, .bool on1, .string ⟨c1.toArray⟩, .int .i64 sh1, .int .i64 pr1, .int .i64 si1, .string ⟨st1.toArray⟩, .int .u64 sum1, .slice va tt1.length ca] 27)
  have b1 := bl_newZ (w.alloc (.cells #[.int .i64 k1, .int .i64 q1, .bool on1, .string ⟨c1.toArray⟩, .int .i64 sh1, .int .i64 pr1, .int .i64 si1, .string ⟨st1.toArray⟩, .int .u64 sum1, .slice va tt1.length ca] 27)) (.cells #[.int .i64 k2, .int .i64 q2, .bool on2, .string ⟨c2.toArray⟩, .int .i64 sh2, .int .i64 pr2, .int .i64 si2, .string ⟨st2.toArray⟩, .int .u64 sum2, .slice vb tt2.length cb] 27)
  have HB := Lib.hid (below2Z b0 b1)
  have VA := Lib.hid ((hv1.later b0).later b1)
  have VB := Lib.hid ((hv2.later b0).later b1)
  have FA := newQ w (.cells #[.int .i64 k1, .int .i64 q1, .bool on1, .string ⟨c1.toArray⟩, .int .i64 sh1, .int .i64 pr1, .int .i64 si1, .string ⟨st1.toArray⟩, .int .u64 sum1, .slice va tt1.length ca] 27)
  replace FA := upQ FA b1
  replace FA := Lib.hid FA
  have FB := newQ (w.alloc (.cells #[.int .i64 k1, .int .i64 q1, .bool on1, .string ⟨c1.toArray⟩, .int .i64 sh1, .int .i64 pr1, .int .i64 si1, .string ⟨st1.toArray⟩, .int .u64 sum1, .slice va tt1.length ca] 27)) (.cells #[.int .i64 k2, .int .i64 q2, .bool on2, .string ⟨c2.toArray⟩, .int .i64 sh2, .int .i64 pr2, .int .i64 si2, .string ⟨st2.toArray⟩, .int .u64 sum2, .slice vb tt2.length cb] 27)
  rw [World.size_alloc] at FB
  replace FB := Lib.hid FB
  clear b0 b1
  clear hv1 hv2
  go_enter Try.func5, Try.ntmps5
  obtain ⟨⟨FAc0, FAc1, FAc2, FAc3, FAc4, FAc5, FAc6, FAc7, FAc8, FAc9⟩, ⟨FAf0, FAf1, FAf2, FAf3, FAf4, FAf5, FAf6, FAf7, FAf8, FAf9⟩⟩ := blk10 FA.out
  go_wp2_with fail
  clear FAc0 FAc1 FAc2 FAc3 FAc4 FAc5 FAc6 FAc7 FAc8 FAc9 FAf0 FAf1 FAf2 FAf3 FAf4 FAf5 FAf6 FAf7 FAf8 FAf9
  refine (fewf_eq VA.out k1 q1 on1 c1 sh1 pr1 si1 st1 sum1 hc1 hs1 HF1).mono ?_
  rintro e w3 ⟨rfl, b3⟩
  replace FA := Lib.hid (upQ FA.out b3)
  replace FB := Lib.hid (upQ FB.out b3)
  replace VA := Lib.hid (VA.out.later b3)
  replace VB := Lib.hid (VB.out.later b3)
  replace HB := Lib.hid (below2Z HB.out b3)
  clear b3
  obtain ⟨⟨FBc0, FBc1, FBc2, FBc3, FBc4, FBc5, FBc6, FBc7, FBc8, FBc9⟩, ⟨FBf0, FBf1, FBf2, FBf3, FBf4, FBf5, FBf6, FBf7, FBf8, FBf9⟩⟩ := blk10 FB.out
  go_wp2_with fail
  clear FBc0 FBc1 FBc2 FBc3 FBc4 FBc5 FBc6 FBc7 FBc8 FBc9 FBf0 FBf1 FBf2 FBf3 FBf4 FBf5 FBf6 FBf7 FBf8 FBf9
  refine (fewf_eq VB.out k2 q2 on2 c2 sh2 pr2 si2 st2 sum2 hc2 hs2 HF2).mono ?_
  rintro e w4 ⟨rfl, b4⟩
  replace FA := Lib.hid (upQ FA.out b4)
  replace FB := Lib.hid (upQ FB.out b4)
  replace VA := Lib.hid (VA.out.later b4)
  replace VB := Lib.hid (VB.out.later b4)
  replace HB := Lib.hid (below2Z HB.out b4)
  clear b4
  obtain ⟨⟨FAc0, FAc1, FAc2, FAc3, FAc4, FAc5, FAc6, FAc7, FAc8, FAc9⟩, ⟨FAf0, FAf1, FAf2, FAf3, FAf4, FAf5, FAf6, FAf7, FAf8, FAf9⟩⟩ := blk10 FA.out
  go_wp2_with fail
  clear FAc0 FAc1 FAc2 FAc3 FAc4 FAc5 FAc6 FAc7 FAc8 FAc9 FAf0 FAf1 FAf2 FAf3 FAf4 FAf5 FAf6 FAf7 FAf8 FAf9
  refine (frenc_any VA.out HSA.out k1 q1 on1 c1 sh1 pr1 si1 st1 sum1 hu1 n1 n2 HEA).mono ?_
  rintro e w5 ⟨rfl, b5⟩
  replace FA := Lib.hid (upQ FA.out b5)
  replace FB := Lib.hid (upQ FB.out b5)
  replace VA := Lib.hid (VA.out.later b5)
  replace VB := Lib.hid (VB.out.later b5)
  replace HB := Lib.hid (below2Z HB.out b5)
  clear b5
  obtain ⟨⟨FAc0, FAc1, FAc2, FAc3, FAc4, FAc5, FAc6, FAc7, FAc8, FAc9⟩, ⟨FAf0, FAf1, FAf2, FAf3, FAf4, FAf5, FAf6, FAf7, FAf8, FAf9⟩⟩ := blk10 FA.out
  go_wp2_with fail
  clear FAc0 FAc1 FAc2 FAc3 FAc4 FAc5 FAc6 FAc7 FAc8 FAc9 FAf0 FAf1 FAf2 FAf3 FAf4 FAf5 FAf6 FAf7 FAf8 FAf9
  refine (frmay_eqF VA.out HSA.out n1 n2 HMA).mono ?_
  rintro e w6 ⟨rfl, b6⟩
  replace FA := Lib.hid (upQ FA.out b6)
  replace FB := Lib.hid (upQ FB.out b6)
  replace VA := Lib.hid (VA.out.later b6)
  replace VB := Lib.hid (VB.out.later b6)
  replace HB := Lib.hid (below2Z HB.out b6)
  clear b6
  go_wp2_with fail
  refine (frdec_any l1 hl1 HDA _).mono ?_
  rintro e w7 ⟨v7, rfl, hov7, b7⟩
  replace FA := Lib.hid (upQ FA.out b7)
  replace FB := Lib.hid (upQ FB.out b7)
  replace VA := Lib.hid (VA.out.later b7)
  replace VB := Lib.hid (VB.out.later b7)
  replace HB := Lib.hid (below2Z HB.out b7)
  obtain ⟨va7, vc7, rfl, -⟩ := Tab.open' (OwnR.tab hov7)
  have VG := Lib.hid (OwnR.tab hov7)
  clear hov7
  clear b7
  obtain ⟨⟨FAc0, FAc1, FAc2, FAc3, FAc4, FAc5, FAc6, FAc7, FAc8, FAc9⟩, ⟨FAf0, FAf1, FAf2, FAf3, FAf4, FAf5, FAf6, FAf7, FAf8, FAf9⟩⟩ := blk10 FA.out
  have hAl := (Array.getElem?_eq_some_iff.1 FA.out).1
  go_wp2_with fail
  clear FAc0 FAc1 FAc2 FAc3 FAc4 FAc5 FAc6 FAc7 FAc8 FAc9 FAf0 FAf1 FAf2 FAf3 FAf4 FAf5 FAf6 FAf7 FAf8 FAf9 hAl
  have b8 := bl_newZ w7 (.cells #[.int .i64 k1, .int .i64 q1, .bool on1, .string ⟨c1.toArray⟩, .int .i64 sh1, .int .i64 pr1, .int .i64 si1, .string ⟨st1.toArray⟩, .int .u64 sum1, .slice va7 tt1.length vc7] 27)
  have G := newQ w7 (.cells #[.int .i64 k1, .int .i64 q1, .bool on1, .string ⟨c1.toArray⟩, .int .i64 sh1, .int .i64 pr1, .int .i64 si1, .string ⟨st1.toArray⟩, .int .u64 sum1, .slice va7 tt1.length vc7] 27)
  have hG : w.heap.size ≤ w7.heap.size := HB.out.size
  replace FA := Lib.hid (upQ FA.out b8)
  replace FB := Lib.hid (upQ FB.out b8)
  replace VA := Lib.hid (VA.out.later b8)
  replace VB := Lib.hid (VB.out.later b8)
  replace VG := Lib.hid (Tab.later VG.out b8)
  replace HB := Lib.hid (below2Z HB.out b8)
  clear b8
  replace G := Lib.hid G
  generalize w7.alloc (.cells #[.int .i64 k1, .int .i64 q1, .bool on1, .string ⟨c1.toArray⟩, .int .i64 sh1, .int .i64 pr1, .int .i64 si1, .string ⟨st1.toArray⟩, .int .u64 sum1, .slice va7 tt1.length vc7] 27) = w9 at FA FB G VA VB VG HB ⊢
  generalize w7.heap.size = BG at G hG ⊢
  refine (frsame_eqF VG.out VA.out (Lib.hid (frSame_iff.2 rfl))).mono ?_
  rintro e w10 ⟨rfl, b10⟩
  replace FA := Lib.hid (upQ FA.out b10)
  replace FB := Lib.hid (upQ FB.out b10)
  replace G := Lib.hid (upQ G.out b10)
  replace VA := Lib.hid (VA.out.later b10)
  replace VB := Lib.hid (VB.out.later b10)
  replace VG := Lib.hid (Tab.later VG.out b10)
  replace HB := Lib.hid (below2Z HB.out b10)
  clear b10
  obtain ⟨⟨FBc0, FBc1, FBc2, FBc3, FBc4, FBc5, FBc6, FBc7, FBc8, FBc9⟩, ⟨FBf0, FBf1, FBf2, FBf3, FBf4, FBf5, FBf6, FBf7, FBf8, FBf9⟩⟩ := blk10 FB.out
  go_wp2_with fail
  clear FBc0 FBc1 FBc2 FBc3 FBc4 FBc5 FBc6 FBc7 FBc8 FBc9 FBf0 FBf1 FBf2 FBf3 FBf4 FBf5 FBf6 FBf7 FBf8 FBf9
  refine (frenc_any VB.out HSB.out k2 q2 on2 c2 sh2 pr2 si2 st2 sum2 hu2 n3 n4 HEB).mono ?_
  rintro e w11 ⟨rfl, b11⟩
  replace FA := Lib.hid (upQ FA.out b11)
  replace FB := Lib.hid (upQ FB.out b11)
  replace G := Lib.hid (upQ G.out b11)
  replace VA := Lib.hid (VA.out.later b11)
  replace VB := Lib.hid (VB.out.later b11)
  replace VG := Lib.hid (Tab.later VG.out b11)
  replace HB := Lib.hid (below2Z HB.out b11)
  clear b11
  obtain ⟨⟨FAc0, FAc1, FAc2, FAc3, FAc4, FAc5, FAc6, FAc7, FAc8, FAc9⟩, ⟨FAf0, FAf1, FAf2, FAf3, FAf4, FAf5, FAf6, FAf7, FAf8, FAf9⟩⟩ := blk10 FA.out
  obtain ⟨⟨FBc0, FBc1, FBc2, FBc3, FBc4, FBc5, FBc6, FBc7, FBc8, FBc9⟩, ⟨FBf0, FBf1, FBf2, FBf3, FBf4, FBf5, FBf6, FBf7, FBf8, FBf9⟩⟩ := blk10 FB.out
  have hll := HLL.out
  go_wp2_with fail
  clear FAc0 FAc1 FAc2 FAc3 FAc4 FAc5 FAc6 FAc7 FAc8 FAc9 FAf0 FAf1 FAf2 FAf3 FAf4 FAf5 FAf6 FAf7 FAf8 FAf9 FBc0 FBc1 FBc2 FBc3 FBc4 FBc5 FBc6 FBc7 FBc8 FBc9 FBf0 FBf1 FBf2 FBf3 FBf4 FBf5 FBf6 FBf7 FBf8 FBf9 hll
  refine (frsame_eqF VA.out VB.out HQ).mono ?_
  rintro e w12 ⟨rfl, b12⟩
  replace FA := Lib.hid (upQ FA.out b12)
  replace FB := Lib.hid (upQ FB.out b12)
  replace G := Lib.hid (upQ G.out b12)
  replace VA := Lib.hid (VA.out.later b12)
  replace VB := Lib.hid (VB.out.later b12)
  replace VG := Lib.hid (Tab.later VG.out b12)
  replace HB := Lib.hid (below2Z HB.out b12)
  clear b12
  go_wp2_with fail
  refine (frdec_any l hl2 HDS _).mono ?_
  rintro e w13 ⟨v13, rfl, hov13, b13⟩
  replace FA := Lib.hid (upQ FA.out b13)
  replace FB := Lib.hid (upQ FB.out b13)
  replace G := Lib.hid (upQ G.out b13)
  replace VA := Lib.hid (VA.out.later b13)
  replace VB := Lib.hid (VB.out.later b13)
  replace VG := Lib.hid (Tab.later VG.out b13)
  replace HB := Lib.hid (below2Z HB.out b13)
  obtain ⟨va13, vc13, rfl, -⟩ := Tab.open' (OwnR.tab hov13)
  have VH := Lib.hid (OwnR.tab hov13)
  clear hov13
  clear b13
  go_wp2_with fail
  have b14 := bl_newZ w13 (.cells #[.int .i64 k3, .int .i64 q3, .bool on3, .string ⟨c3.toArray⟩, .int .i64 sh3, .int .i64 pr3, .int .i64 si3, .string ⟨st3.toArray⟩, .int .u64 sum3, .slice va13 tt3.length vc13] 27)
  have H := newQ w13 (.cells #[.int .i64 k3, .int .i64 q3, .bool on3, .string ⟨c3.toArray⟩, .int .i64 sh3, .int .i64 pr3, .int .i64 si3, .string ⟨st3.toArray⟩, .int .u64 sum3, .slice va13 tt3.length vc13] 27)
  have hH : w.heap.size ≤ w13.heap.size := HB.out.size
  replace FA := Lib.hid (upQ FA.out b14)
  replace FB := Lib.hid (upQ FB.out b14)
  replace G := Lib.hid (upQ G.out b14)
  replace VA := Lib.hid (VA.out.later b14)
  replace VB := Lib.hid (VB.out.later b14)
  replace VG := Lib.hid (Tab.later VG.out b14)
  replace VH := Lib.hid (Tab.later VH.out b14)
  replace HB := Lib.hid (below2Z HB.out b14)
  clear b14
  replace H := Lib.hid H
  generalize w13.alloc (.cells #[.int .i64 k3, .int .i64 q3, .bool on3, .string ⟨c3.toArray⟩, .int .i64 sh3, .int .i64 pr3, .int .i64 si3, .string ⟨st3.toArray⟩, .int .u64 sum3, .slice va13 tt3.length vc13] 27) = w15 at FA FB G H VA VB VG VH HB ⊢
  generalize w13.heap.size = BH at H hH ⊢
  refine (frenc_any VH.out HSH.out k3 q3 on3 c3 sh3 pr3 si3 st3 sum3 hu3 m1 m2 HEH).mono ?_
  rintro e w16 ⟨rfl, b16⟩
  replace FA := Lib.hid (upQ FA.out b16)
  replace FB := Lib.hid (upQ FB.out b16)
  replace G := Lib.hid (upQ G.out b16)
  replace H := Lib.hid (upQ H.out b16)
  replace VA := Lib.hid (VA.out.later b16)
  replace VB := Lib.hid (VB.out.later b16)
  replace VG := Lib.hid (Tab.later VG.out b16)
  replace VH := Lib.hid (Tab.later VH.out b16)
  replace HB := Lib.hid (below2Z HB.out b16)
  clear b16
  go_wp2_with fail
  refine (live6 _).mono ?_
  rintro e w17 ⟨rfl, b17⟩
  replace FA := Lib.hid (upQ FA.out b17)
  replace FB := Lib.hid (upQ FB.out b17)
  replace G := Lib.hid (upQ G.out b17)
  replace H := Lib.hid (upQ H.out b17)
  replace VA := Lib.hid (VA.out.later b17)
  replace VB := Lib.hid (VB.out.later b17)
  replace VG := Lib.hid (Tab.later VG.out b17)
  replace VH := Lib.hid (Tab.later VH.out b17)
  replace HB := Lib.hid (below2Z HB.out b17)
  clear b17
  go_wp2_with fail
  go_ret
  exact ⟨rfl, HB.out⟩

set_option maxHeartbeats 3200000 in
set_option maxRecDepth 100000 in
theorem fwb_yyfe {w : World} {v1 v2 : Value} {k1 q1 sh1 pr1 si1 : Int} {on1 : Bool} {c1 st1 : List UInt8} {sum1 : Nat} {tt1 : List Row} {k2 q2 sh2 pr2 si2 : Int} {on2 : Bool} {c2 st2 : List UInt8} {sum2 : Nat} {tt2 : List Row} (hv1 : Tab w v1 tt1) (hv2 : Tab w v2 tt2) (l : List UInt8) (hc1 : c1.length ≤ maxLen) (hs1 : st1.length ≤ maxLen) (hc2 : c2.length ≤ maxLen) (hs2 : st2.length ≤ maxLen) (HF1 : Hid (fewF ⟨k1, q1, on1, c1, ⟨sh1, pr1, si1, st1⟩, sum1, tt1⟩ = true)) (HF2 : Hid (fewF ⟨k2, q2, on2, c2, ⟨sh2, pr2, si2, st2⟩, sum2, tt2⟩ = true)) (hl : l.length ≤ 1500) (hu1 : sum1 < 18446744073709551616) (hu2 : sum2 < 18446744073709551616) {l1 : List UInt8} (hl1 : l1.length ≤ 4294967296) (HMA : Hid (frMay ⟨k1, q1, on1, c1, ⟨sh1, pr1, si1, st1⟩, sum1, tt1⟩ = true)) (HEA : Hid (frEnc ⟨k1, q1, on1, c1, ⟨sh1, pr1, si1, st1⟩, sum1, tt1⟩ = (l1, 0))) (HDA : Hid (frDec l1 = (⟨k1, q1, on1, c1, ⟨sh1, pr1, si1, st1⟩, sum1, tt1⟩, 0))) {l2 : List UInt8} (HEB : Hid (frEnc ⟨k2, q2, on2, c2, ⟨sh2, pr2, si2, st2⟩, sum2, tt2⟩ = (l2, 0))) (HLL : Hid ((l1 == l2) = false)) (HQ : Hid (frSame ⟨k1, q1, on1, c1, ⟨sh1, pr1, si1, st1⟩, sum1, tt1⟩ ⟨k2, q2, on2, c2, ⟨sh2, pr2, si2, st2⟩, sum2, tt2⟩ = false)) {e4 : Nat} (HDS : Hid (frDec l = (⟨0, 0, false, [], ⟨0, 0, 0, []⟩, 0, []⟩, e4))) (he4 : e4 ≠ 0) :
    Calls Try.prog 5 #[.agg #[.int .i64 k1, .int .i64 q1, .bool on1, .string ⟨c1.toArray⟩, .int .i64 sh1, .int .i64 pr1, .int .i64 si1, .string ⟨st1.toArray⟩, .int .u64 sum1, v1], .agg #[.int .i64 k2, .int .i64 q2, .bool on2, .string ⟨c2.toArray⟩, .int .i64 sh2, .int .i64 pr2, .int .i64 si2, .string ⟨st2.toArray⟩, .int .u64 sum2, v2], .string ⟨l.toArray⟩] w fun e w' => e = .returned (.bool true) ∧ Below w.heap.size w w' := by
  have tl : decide (1500 < (l.length : Int)) = false := by rw [decide_eq_false_iff_not]; omega
  have tl2 : decide (1500 < l.length) = false := by rw [decide_eq_false_iff_not]; omega
  obtain ⟨s1, n1, n2⟩ := fewF_get HF1.out
  obtain ⟨s2, n3, n4⟩ := fewF_get HF2.out
  simp only at s1 n1 n2 s2 n3 n4
  have HSA := Lib.hid s1
  have HSB := Lib.hid s2
  clear s1 s2
  have hl2 : l.length ≤ 4294967296 := by omega
  have hsn : Short [] := fun r hr => by simp at hr
  have t4 : ((e4 : Int) != 0) = true := by simp; omega
  clear he4
  have hs1z : (⟨l.toArray⟩ : ByteArray).size = l.length := size_bytes l
  obtain ⟨va, ca, rfl, -⟩ := hv1.open'
  obtain ⟨vb, cb, rfl, -⟩ := hv2.open'
  have b0 := bl_newZ w (.cells #[.int .i64 k1, .int .i64 q1, .bool on1, .string ⟨c1.toArray⟩, .int .i64 sh1, .int .i64 pr1, .int .i64 si1, .string ⟨st1.toArray⟩, .int .u64 sum1, .slice va tt1.length ca] 27)
  have b1 := bl_newZ (w.alloc (.cells #[.int .i64 k1, .int .i64 q1, .bool on1, .string ⟨c1.toArray⟩, .int .i64 sh1, .int .i64 pr1, .int .i64 si1, .string ⟨st1.toArray⟩, .int .u64 sum1, .slice va tt1.length ca] 27)) (.cells #[.int .i64 k2, .int .i64 q2, .bool on2, .string ⟨c2.toArray⟩, .int .i64 sh2, .int .i64 pr2, .int .i64 si2, .string ⟨st2.toArray⟩, .int .u64 sum2, .slice vb tt2.length cb] 27)
  have HB := Lib.hid (below2Z b0 b1)
  have VA := Lib.hid ((hv1.later b0).later b1)
  have VB := Lib.hid ((hv2.later b0).later b1)
  have FA := newQ w (.cells #[.int .i64 k1, .int .i64 q1, .bool on1, .string ⟨c1.toArray⟩, .int .i64 sh1, .int .i64 pr1, .int .i64 si1, .string ⟨st1.toArray⟩, .int .u64 sum1, .slice va tt1.length ca] 27)
  replace FA := upQ FA b1
  replace FA := Lib.hid FA
  have FB := newQ (w.alloc (.cells #[.int .i64 k1, .int .i64 q1, .bool on1, .string ⟨c1.toArray⟩, .int .i64 sh1, .int .i64 pr1, .int .i64 si1, .string ⟨st1.toArray⟩, .int .u64 sum1, .slice va tt1.length ca] 27)) (.cells #[.int .i64 k2, .int .i64 q2, .bool on2, .string ⟨c2.toArray⟩, .int .i64 sh2, .int .i64 pr2, .int .i64 si2, .string ⟨st2.toArray⟩, .int .u64 sum2, .slice vb tt2.length cb] 27)
  rw [World.size_alloc] at FB
  replace FB := Lib.hid FB
  clear b0 b1
  clear hv1 hv2
  go_enter Try.func5, Try.ntmps5
  obtain ⟨⟨FAc0, FAc1, FAc2, FAc3, FAc4, FAc5, FAc6, FAc7, FAc8, FAc9⟩, ⟨FAf0, FAf1, FAf2, FAf3, FAf4, FAf5, FAf6, FAf7, FAf8, FAf9⟩⟩ := blk10 FA.out
  go_wp2_with fail
  clear FAc0 FAc1 FAc2 FAc3 FAc4 FAc5 FAc6 FAc7 FAc8 FAc9 FAf0 FAf1 FAf2 FAf3 FAf4 FAf5 FAf6 FAf7 FAf8 FAf9
  refine (fewf_eq VA.out k1 q1 on1 c1 sh1 pr1 si1 st1 sum1 hc1 hs1 HF1).mono ?_
  rintro e w3 ⟨rfl, b3⟩
  replace FA := Lib.hid (upQ FA.out b3)
  replace FB := Lib.hid (upQ FB.out b3)
  replace VA := Lib.hid (VA.out.later b3)
  replace VB := Lib.hid (VB.out.later b3)
  replace HB := Lib.hid (below2Z HB.out b3)
  clear b3
  obtain ⟨⟨FBc0, FBc1, FBc2, FBc3, FBc4, FBc5, FBc6, FBc7, FBc8, FBc9⟩, ⟨FBf0, FBf1, FBf2, FBf3, FBf4, FBf5, FBf6, FBf7, FBf8, FBf9⟩⟩ := blk10 FB.out
  go_wp2_with fail
  clear FBc0 FBc1 FBc2 FBc3 FBc4 FBc5 FBc6 FBc7 FBc8 FBc9 FBf0 FBf1 FBf2 FBf3 FBf4 FBf5 FBf6 FBf7 FBf8 FBf9
  refine (fewf_eq VB.out k2 q2 on2 c2 sh2 pr2 si2 st2 sum2 hc2 hs2 HF2).mono ?_
  rintro e w4 ⟨rfl, b4⟩
  replace FA := Lib.hid (upQ FA.out b4)
  replace FB := Lib.hid (upQ FB.out b4)
  replace VA := Lib.hid (VA.out.later b4)
  replace VB := Lib.hid (VB.out.later b4)
  replace HB := Lib.hid (below2Z HB.out b4)
  clear b4
  obtain ⟨⟨FAc0, FAc1, FAc2, FAc3, FAc4, FAc5, FAc6, FAc7, FAc8, FAc9⟩, ⟨FAf0, FAf1, FAf2, FAf3, FAf4, FAf5, FAf6, FAf7, FAf8, FAf9⟩⟩ := blk10 FA.out
  go_wp2_with fail
  clear FAc0 FAc1 FAc2 FAc3 FAc4 FAc5 FAc6 FAc7 FAc8 FAc9 FAf0 FAf1 FAf2 FAf3 FAf4 FAf5 FAf6 FAf7 FAf8 FAf9
  refine (frenc_any VA.out HSA.out k1 q1 on1 c1 sh1 pr1 si1 st1 sum1 hu1 n1 n2 HEA).mono ?_
  rintro e w5 ⟨rfl, b5⟩
  replace FA := Lib.hid (upQ FA.out b5)
  replace FB := Lib.hid (upQ FB.out b5)
  replace VA := Lib.hid (VA.out.later b5)
  replace VB := Lib.hid (VB.out.later b5)
  replace HB := Lib.hid (below2Z HB.out b5)
  clear b5
  obtain ⟨⟨FAc0, FAc1, FAc2, FAc3, FAc4, FAc5, FAc6, FAc7, FAc8, FAc9⟩, ⟨FAf0, FAf1, FAf2, FAf3, FAf4, FAf5, FAf6, FAf7, FAf8, FAf9⟩⟩ := blk10 FA.out
  go_wp2_with fail
  clear FAc0 FAc1 FAc2 FAc3 FAc4 FAc5 FAc6 FAc7 FAc8 FAc9 FAf0 FAf1 FAf2 FAf3 FAf4 FAf5 FAf6 FAf7 FAf8 FAf9
  refine (frmay_eqF VA.out HSA.out n1 n2 HMA).mono ?_
  rintro e w6 ⟨rfl, b6⟩
  replace FA := Lib.hid (upQ FA.out b6)
  replace FB := Lib.hid (upQ FB.out b6)
  replace VA := Lib.hid (VA.out.later b6)
  replace VB := Lib.hid (VB.out.later b6)
  replace HB := Lib.hid (below2Z HB.out b6)
  clear b6
  go_wp2_with fail
  refine (frdec_any l1 hl1 HDA _).mono ?_
  rintro e w7 ⟨v7, rfl, hov7, b7⟩
  replace FA := Lib.hid (upQ FA.out b7)
  replace FB := Lib.hid (upQ FB.out b7)
  replace VA := Lib.hid (VA.out.later b7)
  replace VB := Lib.hid (VB.out.later b7)
  replace HB := Lib.hid (below2Z HB.out b7)
  obtain ⟨va7, vc7, rfl, -⟩ := Tab.open' (OwnR.tab hov7)
  have VG := Lib.hid (OwnR.tab hov7)
  clear hov7
  clear b7
  obtain ⟨⟨FAc0, FAc1, FAc2, FAc3, FAc4, FAc5, FAc6, FAc7, FAc8, FAc9⟩, ⟨FAf0, FAf1, FAf2, FAf3, FAf4, FAf5, FAf6, FAf7, FAf8, FAf9⟩⟩ := blk10 FA.out
  have hAl := (Array.getElem?_eq_some_iff.1 FA.out).1
  go_wp2_with fail
  clear FAc0 FAc1 FAc2 FAc3 FAc4 FAc5 FAc6 FAc7 FAc8 FAc9 FAf0 FAf1 FAf2 FAf3 FAf4 FAf5 FAf6 FAf7 FAf8 FAf9 hAl
  have b8 := bl_newZ w7 (.cells #[.int .i64 k1, .int .i64 q1, .bool on1, .string ⟨c1.toArray⟩, .int .i64 sh1, .int .i64 pr1, .int .i64 si1, .string ⟨st1.toArray⟩, .int .u64 sum1, .slice va7 tt1.length vc7] 27)
  have G := newQ w7 (.cells #[.int .i64 k1, .int .i64 q1, .bool on1, .string ⟨c1.toArray⟩, .int .i64 sh1, .int .i64 pr1, .int .i64 si1, .string ⟨st1.toArray⟩, .int .u64 sum1, .slice va7 tt1.length vc7] 27)
  have hG : w.heap.size ≤ w7.heap.size := HB.out.size
  replace FA := Lib.hid (upQ FA.out b8)
  replace FB := Lib.hid (upQ FB.out b8)
  replace VA := Lib.hid (VA.out.later b8)
  replace VB := Lib.hid (VB.out.later b8)
  replace VG := Lib.hid (Tab.later VG.out b8)
  replace HB := Lib.hid (below2Z HB.out b8)
  clear b8
  replace G := Lib.hid G
  generalize w7.alloc (.cells #[.int .i64 k1, .int .i64 q1, .bool on1, .string ⟨c1.toArray⟩, .int .i64 sh1, .int .i64 pr1, .int .i64 si1, .string ⟨st1.toArray⟩, .int .u64 sum1, .slice va7 tt1.length vc7] 27) = w9 at FA FB G VA VB VG HB ⊢
  generalize w7.heap.size = BG at G hG ⊢
  refine (frsame_eqF VG.out VA.out (Lib.hid (frSame_iff.2 rfl))).mono ?_
  rintro e w10 ⟨rfl, b10⟩
  replace FA := Lib.hid (upQ FA.out b10)
  replace FB := Lib.hid (upQ FB.out b10)
  replace G := Lib.hid (upQ G.out b10)
  replace VA := Lib.hid (VA.out.later b10)
  replace VB := Lib.hid (VB.out.later b10)
  replace VG := Lib.hid (Tab.later VG.out b10)
  replace HB := Lib.hid (below2Z HB.out b10)
  clear b10
  obtain ⟨⟨FBc0, FBc1, FBc2, FBc3, FBc4, FBc5, FBc6, FBc7, FBc8, FBc9⟩, ⟨FBf0, FBf1, FBf2, FBf3, FBf4, FBf5, FBf6, FBf7, FBf8, FBf9⟩⟩ := blk10 FB.out
  go_wp2_with fail
  clear FBc0 FBc1 FBc2 FBc3 FBc4 FBc5 FBc6 FBc7 FBc8 FBc9 FBf0 FBf1 FBf2 FBf3 FBf4 FBf5 FBf6 FBf7 FBf8 FBf9
  refine (frenc_any VB.out HSB.out k2 q2 on2 c2 sh2 pr2 si2 st2 sum2 hu2 n3 n4 HEB).mono ?_
  rintro e w11 ⟨rfl, b11⟩
  replace FA := Lib.hid (upQ FA.out b11)
  replace FB := Lib.hid (upQ FB.out b11)
  replace G := Lib.hid (upQ G.out b11)
  replace VA := Lib.hid (VA.out.later b11)
  replace VB := Lib.hid (VB.out.later b11)
  replace VG := Lib.hid (Tab.later VG.out b11)
  replace HB := Lib.hid (below2Z HB.out b11)
  clear b11
  obtain ⟨⟨FAc0, FAc1, FAc2, FAc3, FAc4, FAc5, FAc6, FAc7, FAc8, FAc9⟩, ⟨FAf0, FAf1, FAf2, FAf3, FAf4, FAf5, FAf6, FAf7, FAf8, FAf9⟩⟩ := blk10 FA.out
  obtain ⟨⟨FBc0, FBc1, FBc2, FBc3, FBc4, FBc5, FBc6, FBc7, FBc8, FBc9⟩, ⟨FBf0, FBf1, FBf2, FBf3, FBf4, FBf5, FBf6, FBf7, FBf8, FBf9⟩⟩ := blk10 FB.out
  have hll := HLL.out
  go_wp2_with fail
  clear FAc0 FAc1 FAc2 FAc3 FAc4 FAc5 FAc6 FAc7 FAc8 FAc9 FAf0 FAf1 FAf2 FAf3 FAf4 FAf5 FAf6 FAf7 FAf8 FAf9 FBc0 FBc1 FBc2 FBc3 FBc4 FBc5 FBc6 FBc7 FBc8 FBc9 FBf0 FBf1 FBf2 FBf3 FBf4 FBf5 FBf6 FBf7 FBf8 FBf9 hll
  refine (frsame_eqF VA.out VB.out HQ).mono ?_
  rintro e w12 ⟨rfl, b12⟩
  replace FA := Lib.hid (upQ FA.out b12)
  replace FB := Lib.hid (upQ FB.out b12)
  replace G := Lib.hid (upQ G.out b12)
  replace VA := Lib.hid (VA.out.later b12)
  replace VB := Lib.hid (VB.out.later b12)
  replace VG := Lib.hid (Tab.later VG.out b12)
  replace HB := Lib.hid (below2Z HB.out b12)
  clear b12
  go_wp2_with fail
  refine (frdec_any l hl2 HDS _).mono ?_
  rintro e w13 ⟨v13, rfl, hov13, b13⟩
  replace FA := Lib.hid (upQ FA.out b13)
  replace FB := Lib.hid (upQ FB.out b13)
  replace G := Lib.hid (upQ G.out b13)
  replace VA := Lib.hid (VA.out.later b13)
  replace VB := Lib.hid (VB.out.later b13)
  replace VG := Lib.hid (Tab.later VG.out b13)
  replace HB := Lib.hid (below2Z HB.out b13)
  obtain ⟨va13, vc13, rfl, -⟩ := Tab.open' (OwnR.tab hov13)
  have VH := Lib.hid (OwnR.tab hov13)
  clear hov13
  clear b13
  go_wp2_with fail
  have b14 := bl_newZ w13 (.cells #[.int .i64 0, .int .i64 0, .bool false, .string ⟨#[]⟩, .int .i64 0, .int .i64 0, .int .i64 0, .string ⟨#[]⟩, .int .u64 0, .slice va13 0 vc13] 27)
  have H := newQ w13 (.cells #[.int .i64 0, .int .i64 0, .bool false, .string ⟨#[]⟩, .int .i64 0, .int .i64 0, .int .i64 0, .string ⟨#[]⟩, .int .u64 0, .slice va13 0 vc13] 27)
  have hH : w.heap.size ≤ w13.heap.size := HB.out.size
  replace FA := Lib.hid (upQ FA.out b14)
  replace FB := Lib.hid (upQ FB.out b14)
  replace G := Lib.hid (upQ G.out b14)
  replace VA := Lib.hid (VA.out.later b14)
  replace VB := Lib.hid (VB.out.later b14)
  replace VG := Lib.hid (Tab.later VG.out b14)
  replace VH := Lib.hid (Tab.later VH.out b14)
  replace HB := Lib.hid (below2Z HB.out b14)
  clear b14
  replace H := Lib.hid H
  generalize w13.alloc (.cells #[.int .i64 0, .int .i64 0, .bool false, .string ⟨#[]⟩, .int .i64 0, .int .i64 0, .int .i64 0, .string ⟨#[]⟩, .int .u64 0, .slice va13 0 vc13] 27) = w15 at FA FB G H VA VB VG VH HB ⊢
  generalize w13.heap.size = BH at H hH ⊢
  refine (frenc_any VH.out hsn 0 0 false [] 0 0 0 [] 0 (by decide) (by decide) (by decide) (Lib.hid fwb_zero)).mono ?_
  rintro e w16 ⟨rfl, b16⟩
  replace FA := Lib.hid (upQ FA.out b16)
  replace FB := Lib.hid (upQ FB.out b16)
  replace G := Lib.hid (upQ G.out b16)
  replace H := Lib.hid (upQ H.out b16)
  replace VA := Lib.hid (VA.out.later b16)
  replace VB := Lib.hid (VB.out.later b16)
  replace VG := Lib.hid (Tab.later VG.out b16)
  replace VH := Lib.hid (Tab.later VH.out b16)
  replace HB := Lib.hid (below2Z HB.out b16)
  clear b16
  obtain ⟨⟨Hc0, Hc1, Hc2, Hc3, Hc4, Hc5, Hc6, Hc7, Hc8, Hc9⟩, ⟨Hf0, Hf1, Hf2, Hf3, Hf4, Hf5, Hf6, Hf7, Hf8, Hf9⟩⟩ := blk10 H.out
  go_wp2_with fail
  clear Hc0 Hc1 Hc2 Hc3 Hc4 Hc5 Hc6 Hc7 Hc8 Hc9 Hf0 Hf1 Hf2 Hf3 Hf4 Hf5 Hf6 Hf7 Hf8 Hf9
  refine (frsame_eqF VH.out (OwnR.tab (ownR_nil _ 0)) (Lib.hid (frSame_iff.2 rfl))).mono ?_
  rintro e w17 ⟨rfl, b17⟩
  replace FA := Lib.hid (upQ FA.out b17)
  replace FB := Lib.hid (upQ FB.out b17)
  replace G := Lib.hid (upQ G.out b17)
  replace H := Lib.hid (upQ H.out b17)
  replace VA := Lib.hid (VA.out.later b17)
  replace VB := Lib.hid (VB.out.later b17)
  replace VG := Lib.hid (Tab.later VG.out b17)
  replace VH := Lib.hid (Tab.later VH.out b17)
  replace HB := Lib.hid (below2Z HB.out b17)
  clear b17
  go_wp2_with fail
  refine (live6 _).mono ?_
  rintro e w18 ⟨rfl, b18⟩
  replace FA := Lib.hid (upQ FA.out b18)
  replace FB := Lib.hid (upQ FB.out b18)
  replace G := Lib.hid (upQ G.out b18)
  replace H := Lib.hid (upQ H.out b18)
  replace VA := Lib.hid (VA.out.later b18)
  replace VB := Lib.hid (VB.out.later b18)
  replace VG := Lib.hid (Tab.later VG.out b18)
  replace VH := Lib.hid (Tab.later VH.out b18)
  replace HB := Lib.hid (below2Z HB.out b18)
  clear b18
  go_wp2_with fail
  go_ret
  exact ⟨rfl, HB.out⟩

set_option maxHeartbeats 3200000 in
set_option maxRecDepth 100000 in
theorem fwb_yno {w : World} {v1 v2 : Value} {k1 q1 sh1 pr1 si1 : Int} {on1 : Bool} {c1 st1 : List UInt8} {sum1 : Nat} {tt1 : List Row} {k2 q2 sh2 pr2 si2 : Int} {on2 : Bool} {c2 st2 : List UInt8} {sum2 : Nat} {tt2 : List Row} (hv1 : Tab w v1 tt1) (hv2 : Tab w v2 tt2) (l : List UInt8) (hc1 : c1.length ≤ maxLen) (hs1 : st1.length ≤ maxLen) (hc2 : c2.length ≤ maxLen) (hs2 : st2.length ≤ maxLen) (HF1 : Hid (fewF ⟨k1, q1, on1, c1, ⟨sh1, pr1, si1, st1⟩, sum1, tt1⟩ = true)) (HF2 : Hid (fewF ⟨k2, q2, on2, c2, ⟨sh2, pr2, si2, st2⟩, sum2, tt2⟩ = true)) (hl : l.length ≤ 1500) (hu1 : sum1 < 18446744073709551616) (hu2 : sum2 < 18446744073709551616) {l1 : List UInt8} (hl1 : l1.length ≤ 4294967296) (HMA : Hid (frMay ⟨k1, q1, on1, c1, ⟨sh1, pr1, si1, st1⟩, sum1, tt1⟩ = true)) (HEA : Hid (frEnc ⟨k1, q1, on1, c1, ⟨sh1, pr1, si1, st1⟩, sum1, tt1⟩ = (l1, 0))) (HDA : Hid (frDec l1 = (⟨k1, q1, on1, c1, ⟨sh1, pr1, si1, st1⟩, sum1, tt1⟩, 0))) (HEB : Hid (frEnc ⟨k2, q2, on2, c2, ⟨sh2, pr2, si2, st2⟩, sum2, tt2⟩ = ([], 1))) {k3 q3 sh3 pr3 si3 : Int} {on3 : Bool} {c3 st3 : List UInt8} {sum3 : Nat} {tt3 : List Row} (HDS : Hid (frDec l = (⟨k3, q3, on3, c3, ⟨sh3, pr3, si3, st3⟩, sum3, tt3⟩, 0))) (HEH : Hid (frEnc ⟨k3, q3, on3, c3, ⟨sh3, pr3, si3, st3⟩, sum3, tt3⟩ = (l, 0))) (HSH : Hid (Short tt3)) (m1 : c3.length ≤ 4294967296) (m2 : st3.length ≤ 4294967296) (hu3 : sum3 < 18446744073709551616) :
    Calls Try.prog 5 #[.agg #[.int .i64 k1, .int .i64 q1, .bool on1, .string ⟨c1.toArray⟩, .int .i64 sh1, .int .i64 pr1, .int .i64 si1, .string ⟨st1.toArray⟩, .int .u64 sum1, v1], .agg #[.int .i64 k2, .int .i64 q2, .bool on2, .string ⟨c2.toArray⟩, .int .i64 sh2, .int .i64 pr2, .int .i64 si2, .string ⟨st2.toArray⟩, .int .u64 sum2, v2], .string ⟨l.toArray⟩] w fun e w' => e = .returned (.bool true) ∧ Below w.heap.size w w' := by
  have tl : decide (1500 < (l.length : Int)) = false := by rw [decide_eq_false_iff_not]; omega
  have tl2 : decide (1500 < l.length) = false := by rw [decide_eq_false_iff_not]; omega
  obtain ⟨s1, n1, n2⟩ := fewF_get HF1.out
  obtain ⟨s2, n3, n4⟩ := fewF_get HF2.out
  simp only at s1 n1 n2 s2 n3 n4
  have HSA := Lib.hid s1
  have HSB := Lib.hid s2
  clear s1 s2
  have hl2 : l.length ≤ 4294967296 := by omega
  have hsn : Short [] := fun r hr => by simp at hr
  have hs1z : (⟨l.toArray⟩ : ByteArray).size = l.length := size_bytes l
  obtain ⟨va, ca, rfl, -⟩ := hv1.open'
  obtain ⟨vb, cb, rfl, -⟩ := hv2.open'
  have b0 := bl_newZ w (.cells #[.int .i64 k1, .int .i64 q1, .bool on1, .string ⟨c1.toArray⟩, .int .i64 sh1, .int .i64 pr1, .int .i64 si1, .string ⟨st1.toArray⟩, .int .u64 sum1, .slice va tt1.length ca] 27)
  have b1 := bl_newZ (w.alloc (.cells #[.int .i64 k1, .int .i64 q1, .bool on1, .string ⟨c1.toArray⟩, .int .i64 sh1, .int .i64 pr1, .int .i64 si1, .string ⟨st1.toArray⟩, .int .u64 sum1, .slice va tt1.length ca] 27)) (.cells #[.int .i64 k2, .int .i64 q2, .bool on2, .string ⟨c2.toArray⟩, .int .i64 sh2, .int .i64 pr2, .int .i64 si2, .string ⟨st2.toArray⟩, .int .u64 sum2, .slice vb tt2.length cb] 27)
  have HB := Lib.hid (below2Z b0 b1)
  have VA := Lib.hid ((hv1.later b0).later b1)
  have VB := Lib.hid ((hv2.later b0).later b1)
  have FA := newQ w (.cells #[.int .i64 k1, .int .i64 q1, .bool on1, .string ⟨c1.toArray⟩, .int .i64 sh1, .int .i64 pr1, .int .i64 si1, .string ⟨st1.toArray⟩, .int .u64 sum1, .slice va tt1.length ca] 27)
  replace FA := upQ FA b1
  replace FA := Lib.hid FA
  have FB := newQ (w.alloc (.cells #[.int .i64 k1, .int .i64 q1, .bool on1, .string ⟨c1.toArray⟩, .int .i64 sh1, .int .i64 pr1, .int .i64 si1, .string ⟨st1.toArray⟩, .int .u64 sum1, .slice va tt1.length ca] 27)) (.cells #[.int .i64 k2, .int .i64 q2, .bool on2, .string ⟨c2.toArray⟩, .int .i64 sh2, .int .i64 pr2, .int .i64 si2, .string ⟨st2.toArray⟩, .int .u64 sum2, .slice vb tt2.length cb] 27)
  rw [World.size_alloc] at FB
  replace FB := Lib.hid FB
  clear b0 b1
  clear hv1 hv2
  go_enter Try.func5, Try.ntmps5
  obtain ⟨⟨FAc0, FAc1, FAc2, FAc3, FAc4, FAc5, FAc6, FAc7, FAc8, FAc9⟩, ⟨FAf0, FAf1, FAf2, FAf3, FAf4, FAf5, FAf6, FAf7, FAf8, FAf9⟩⟩ := blk10 FA.out
  go_wp2_with fail
  clear FAc0 FAc1 FAc2 FAc3 FAc4 FAc5 FAc6 FAc7 FAc8 FAc9 FAf0 FAf1 FAf2 FAf3 FAf4 FAf5 FAf6 FAf7 FAf8 FAf9
  refine (fewf_eq VA.out k1 q1 on1 c1 sh1 pr1 si1 st1 sum1 hc1 hs1 HF1).mono ?_
  rintro e w3 ⟨rfl, b3⟩
  replace FA := Lib.hid (upQ FA.out b3)
  replace FB := Lib.hid (upQ FB.out b3)
  replace VA := Lib.hid (VA.out.later b3)
  replace VB := Lib.hid (VB.out.later b3)
  replace HB := Lib.hid (below2Z HB.out b3)
  clear b3
  obtain ⟨⟨FBc0, FBc1, FBc2, FBc3, FBc4, FBc5, FBc6, FBc7, FBc8, FBc9⟩, ⟨FBf0, FBf1, FBf2, FBf3, FBf4, FBf5, FBf6, FBf7, FBf8, FBf9⟩⟩ := blk10 FB.out
  go_wp2_with fail
  clear FBc0 FBc1 FBc2 FBc3 FBc4 FBc5 FBc6 FBc7 FBc8 FBc9 FBf0 FBf1 FBf2 FBf3 FBf4 FBf5 FBf6 FBf7 FBf8 FBf9
  refine (fewf_eq VB.out k2 q2 on2 c2 sh2 pr2 si2 st2 sum2 hc2 hs2 HF2).mono ?_
  rintro e w4 ⟨rfl, b4⟩
  replace FA := Lib.hid (upQ FA.out b4)
  replace FB := Lib.hid (upQ FB.out b4)
  replace VA := Lib.hid (VA.out.later b4)
  replace VB := Lib.hid (VB.out.later b4)
  replace HB := Lib.hid (below2Z HB.out b4)
  clear b4
  obtain ⟨⟨FAc0, FAc1, FAc2, FAc3, FAc4, FAc5, FAc6, FAc7, FAc8, FAc9⟩, ⟨FAf0, FAf1, FAf2, FAf3, FAf4, FAf5, FAf6, FAf7, FAf8, FAf9⟩⟩ := blk10 FA.out
  go_wp2_with fail
  clear FAc0 FAc1 FAc2 FAc3 FAc4 FAc5 FAc6 FAc7 FAc8 FAc9 FAf0 FAf1 FAf2 FAf3 FAf4 FAf5 FAf6 FAf7 FAf8 FAf9
  refine (frenc_any VA.out HSA.out k1 q1 on1 c1 sh1 pr1 si1 st1 sum1 hu1 n1 n2 HEA).mono ?_
  rintro e w5 ⟨rfl, b5⟩
  replace FA := Lib.hid (upQ FA.out b5)
  replace FB := Lib.hid (upQ FB.out b5)
  replace VA := Lib.hid (VA.out.later b5)
  replace VB := Lib.hid (VB.out.later b5)
  replace HB := Lib.hid (below2Z HB.out b5)
  clear b5
  obtain ⟨⟨FAc0, FAc1, FAc2, FAc3, FAc4, FAc5, FAc6, FAc7, FAc8, FAc9⟩, ⟨FAf0, FAf1, FAf2, FAf3, FAf4, FAf5, FAf6, FAf7, FAf8, FAf9⟩⟩ := blk10 FA.out
  go_wp2_with fail
  clear FAc0 FAc1 FAc2 FAc3 FAc4 FAc5 FAc6 FAc7 FAc8 FAc9 FAf0 FAf1 FAf2 FAf3 FAf4 FAf5 FAf6 FAf7 FAf8 FAf9
  refine (frmay_eqF VA.out HSA.out n1 n2 HMA).mono ?_
  rintro e w6 ⟨rfl, b6⟩
  replace FA := Lib.hid (upQ FA.out b6)
  replace FB := Lib.hid (upQ FB.out b6)
  replace VA := Lib.hid (VA.out.later b6)
  replace VB := Lib.hid (VB.out.later b6)
  replace HB := Lib.hid (below2Z HB.out b6)
  clear b6
  go_wp2_with fail
  refine (frdec_any l1 hl1 HDA _).mono ?_
  rintro e w7 ⟨v7, rfl, hov7, b7⟩
  replace FA := Lib.hid (upQ FA.out b7)
  replace FB := Lib.hid (upQ FB.out b7)
  replace VA := Lib.hid (VA.out.later b7)
  replace VB := Lib.hid (VB.out.later b7)
  replace HB := Lib.hid (below2Z HB.out b7)
  obtain ⟨va7, vc7, rfl, -⟩ := Tab.open' (OwnR.tab hov7)
  have VG := Lib.hid (OwnR.tab hov7)
  clear hov7
  clear b7
  obtain ⟨⟨FAc0, FAc1, FAc2, FAc3, FAc4, FAc5, FAc6, FAc7, FAc8, FAc9⟩, ⟨FAf0, FAf1, FAf2, FAf3, FAf4, FAf5, FAf6, FAf7, FAf8, FAf9⟩⟩ := blk10 FA.out
  have hAl := (Array.getElem?_eq_some_iff.1 FA.out).1
  go_wp2_with fail
  clear FAc0 FAc1 FAc2 FAc3 FAc4 FAc5 FAc6 FAc7 FAc8 FAc9 FAf0 FAf1 FAf2 FAf3 FAf4 FAf5 FAf6 FAf7 FAf8 FAf9 hAl
  have b8 := bl_newZ w7 (.cells #[.int .i64 k1, .int .i64 q1, .bool on1, .string ⟨c1.toArray⟩, .int .i64 sh1, .int .i64 pr1, .int .i64 si1, .string ⟨st1.toArray⟩, .int .u64 sum1, .slice va7 tt1.length vc7] 27)
  have G := newQ w7 (.cells #[.int .i64 k1, .int .i64 q1, .bool on1, .string ⟨c1.toArray⟩, .int .i64 sh1, .int .i64 pr1, .int .i64 si1, .string ⟨st1.toArray⟩, .int .u64 sum1, .slice va7 tt1.length vc7] 27)
  have hG : w.heap.size ≤ w7.heap.size := HB.out.size
  replace FA := Lib.hid (upQ FA.out b8)
  replace FB := Lib.hid (upQ FB.out b8)
  replace VA := Lib.hid (VA.out.later b8)
  replace VB := Lib.hid (VB.out.later b8)
  replace VG := Lib.hid (Tab.later VG.out b8)
  replace HB := Lib.hid (below2Z HB.out b8)
  clear b8
  replace G := Lib.hid G
  generalize w7.alloc (.cells #[.int .i64 k1, .int .i64 q1, .bool on1, .string ⟨c1.toArray⟩, .int .i64 sh1, .int .i64 pr1, .int .i64 si1, .string ⟨st1.toArray⟩, .int .u64 sum1, .slice va7 tt1.length vc7] 27) = w9 at FA FB G VA VB VG HB ⊢
  generalize w7.heap.size = BG at G hG ⊢
  refine (frsame_eqF VG.out VA.out (Lib.hid (frSame_iff.2 rfl))).mono ?_
  rintro e w10 ⟨rfl, b10⟩
  replace FA := Lib.hid (upQ FA.out b10)
  replace FB := Lib.hid (upQ FB.out b10)
  replace G := Lib.hid (upQ G.out b10)
  replace VA := Lib.hid (VA.out.later b10)
  replace VB := Lib.hid (VB.out.later b10)
  replace VG := Lib.hid (Tab.later VG.out b10)
  replace HB := Lib.hid (below2Z HB.out b10)
  clear b10
  obtain ⟨⟨FBc0, FBc1, FBc2, FBc3, FBc4, FBc5, FBc6, FBc7, FBc8, FBc9⟩, ⟨FBf0, FBf1, FBf2, FBf3, FBf4, FBf5, FBf6, FBf7, FBf8, FBf9⟩⟩ := blk10 FB.out
  go_wp2_with fail
  clear FBc0 FBc1 FBc2 FBc3 FBc4 FBc5 FBc6 FBc7 FBc8 FBc9 FBf0 FBf1 FBf2 FBf3 FBf4 FBf5 FBf6 FBf7 FBf8 FBf9
  refine (frenc_any VB.out HSB.out k2 q2 on2 c2 sh2 pr2 si2 st2 sum2 hu2 n3 n4 HEB).mono ?_
  rintro e w11 ⟨rfl, b11⟩
  replace FA := Lib.hid (upQ FA.out b11)
  replace FB := Lib.hid (upQ FB.out b11)
  replace G := Lib.hid (upQ G.out b11)
  replace VA := Lib.hid (VA.out.later b11)
  replace VB := Lib.hid (VB.out.later b11)
  replace VG := Lib.hid (Tab.later VG.out b11)
  replace HB := Lib.hid (below2Z HB.out b11)
  clear b11
  go_wp2_with fail
  refine (frdec_any l hl2 HDS _).mono ?_
  rintro e w12 ⟨v12, rfl, hov12, b12⟩
  replace FA := Lib.hid (upQ FA.out b12)
  replace FB := Lib.hid (upQ FB.out b12)
  replace G := Lib.hid (upQ G.out b12)
  replace VA := Lib.hid (VA.out.later b12)
  replace VB := Lib.hid (VB.out.later b12)
  replace VG := Lib.hid (Tab.later VG.out b12)
  replace HB := Lib.hid (below2Z HB.out b12)
  obtain ⟨va12, vc12, rfl, -⟩ := Tab.open' (OwnR.tab hov12)
  have VH := Lib.hid (OwnR.tab hov12)
  clear hov12
  clear b12
  go_wp2_with fail
  have b13 := bl_newZ w12 (.cells #[.int .i64 k3, .int .i64 q3, .bool on3, .string ⟨c3.toArray⟩, .int .i64 sh3, .int .i64 pr3, .int .i64 si3, .string ⟨st3.toArray⟩, .int .u64 sum3, .slice va12 tt3.length vc12] 27)
  have H := newQ w12 (.cells #[.int .i64 k3, .int .i64 q3, .bool on3, .string ⟨c3.toArray⟩, .int .i64 sh3, .int .i64 pr3, .int .i64 si3, .string ⟨st3.toArray⟩, .int .u64 sum3, .slice va12 tt3.length vc12] 27)
  have hH : w.heap.size ≤ w12.heap.size := HB.out.size
  replace FA := Lib.hid (upQ FA.out b13)
  replace FB := Lib.hid (upQ FB.out b13)
  replace G := Lib.hid (upQ G.out b13)
  replace VA := Lib.hid (VA.out.later b13)
  replace VB := Lib.hid (VB.out.later b13)
  replace VG := Lib.hid (Tab.later VG.out b13)
  replace VH := Lib.hid (Tab.later VH.out b13)
  replace HB := Lib.hid (below2Z HB.out b13)
  clear b13
  replace H := Lib.hid H
  generalize w12.alloc (.cells #[.int .i64 k3, .int .i64 q3, .bool on3, .string ⟨c3.toArray⟩, .int .i64 sh3, .int .i64 pr3, .int .i64 si3, .string ⟨st3.toArray⟩, .int .u64 sum3, .slice va12 tt3.length vc12] 27) = w14 at FA FB G H VA VB VG VH HB ⊢
  generalize w12.heap.size = BH at H hH ⊢
  refine (frenc_any VH.out HSH.out k3 q3 on3 c3 sh3 pr3 si3 st3 sum3 hu3 m1 m2 HEH).mono ?_
  rintro e w15 ⟨rfl, b15⟩
  replace FA := Lib.hid (upQ FA.out b15)
  replace FB := Lib.hid (upQ FB.out b15)
  replace G := Lib.hid (upQ G.out b15)
  replace H := Lib.hid (upQ H.out b15)
  replace VA := Lib.hid (VA.out.later b15)
  replace VB := Lib.hid (VB.out.later b15)
  replace VG := Lib.hid (Tab.later VG.out b15)
  replace VH := Lib.hid (Tab.later VH.out b15)
  replace HB := Lib.hid (below2Z HB.out b15)
  clear b15
  go_wp2_with fail
  refine (live6 _).mono ?_
  rintro e w16 ⟨rfl, b16⟩
  replace FA := Lib.hid (upQ FA.out b16)
  replace FB := Lib.hid (upQ FB.out b16)
  replace G := Lib.hid (upQ G.out b16)
  replace H := Lib.hid (upQ H.out b16)
  replace VA := Lib.hid (VA.out.later b16)
  replace VB := Lib.hid (VB.out.later b16)
  replace VG := Lib.hid (Tab.later VG.out b16)
  replace VH := Lib.hid (Tab.later VH.out b16)
  replace HB := Lib.hid (below2Z HB.out b16)
  clear b16
  go_wp2_with fail
  go_ret
  exact ⟨rfl, HB.out⟩

set_option maxHeartbeats 3200000 in
set_option maxRecDepth 100000 in
theorem fwb_yne {w : World} {v1 v2 : Value} {k1 q1 sh1 pr1 si1 : Int} {on1 : Bool} {c1 st1 : List UInt8} {sum1 : Nat} {tt1 : List Row} {k2 q2 sh2 pr2 si2 : Int} {on2 : Bool} {c2 st2 : List UInt8} {sum2 : Nat} {tt2 : List Row} (hv1 : Tab w v1 tt1) (hv2 : Tab w v2 tt2) (l : List UInt8) (hc1 : c1.length ≤ maxLen) (hs1 : st1.length ≤ maxLen) (hc2 : c2.length ≤ maxLen) (hs2 : st2.length ≤ maxLen) (HF1 : Hid (fewF ⟨k1, q1, on1, c1, ⟨sh1, pr1, si1, st1⟩, sum1, tt1⟩ = true)) (HF2 : Hid (fewF ⟨k2, q2, on2, c2, ⟨sh2, pr2, si2, st2⟩, sum2, tt2⟩ = true)) (hl : l.length ≤ 1500) (hu1 : sum1 < 18446744073709551616) (hu2 : sum2 < 18446744073709551616) {l1 : List UInt8} (hl1 : l1.length ≤ 4294967296) (HMA : Hid (frMay ⟨k1, q1, on1, c1, ⟨sh1, pr1, si1, st1⟩, sum1, tt1⟩ = true)) (HEA : Hid (frEnc ⟨k1, q1, on1, c1, ⟨sh1, pr1, si1, st1⟩, sum1, tt1⟩ = (l1, 0))) (HDA : Hid (frDec l1 = (⟨k1, q1, on1, c1, ⟨sh1, pr1, si1, st1⟩, sum1, tt1⟩, 0))) (HEB : Hid (frEnc ⟨k2, q2, on2, c2, ⟨sh2, pr2, si2, st2⟩, sum2, tt2⟩ = ([], 1))) {e4 : Nat} (HDS : Hid (frDec l = (⟨0, 0, false, [], ⟨0, 0, 0, []⟩, 0, []⟩, e4))) (he4 : e4 ≠ 0) :
    Calls Try.prog 5 #[.agg #[.int .i64 k1, .int .i64 q1, .bool on1, .string ⟨c1.toArray⟩, .int .i64 sh1, .int .i64 pr1, .int .i64 si1, .string ⟨st1.toArray⟩, .int .u64 sum1, v1], .agg #[.int .i64 k2, .int .i64 q2, .bool on2, .string ⟨c2.toArray⟩, .int .i64 sh2, .int .i64 pr2, .int .i64 si2, .string ⟨st2.toArray⟩, .int .u64 sum2, v2], .string ⟨l.toArray⟩] w fun e w' => e = .returned (.bool true) ∧ Below w.heap.size w w' := by
  have tl : decide (1500 < (l.length : Int)) = false := by rw [decide_eq_false_iff_not]; omega
  have tl2 : decide (1500 < l.length) = false := by rw [decide_eq_false_iff_not]; omega
  obtain ⟨s1, n1, n2⟩ := fewF_get HF1.out
  obtain ⟨s2, n3, n4⟩ := fewF_get HF2.out
  simp only at s1 n1 n2 s2 n3 n4
  have HSA := Lib.hid s1
  have HSB := Lib.hid s2
  clear s1 s2
  have hl2 : l.length ≤ 4294967296 := by omega
  have hsn : Short [] := fun r hr => by simp at hr
  have t4 : ((e4 : Int) != 0) = true := by simp; omega
  clear he4
  have hs1z : (⟨l.toArray⟩ : ByteArray).size = l.length := size_bytes l
  obtain ⟨va, ca, rfl, -⟩ := hv1.open'
  obtain ⟨vb, cb, rfl, -⟩ := hv2.open'
  have b0 := bl_newZ w (.cells #[.int .i64 k1, .int .i64 q1, .bool on1, .string ⟨c1.toArray⟩, .int .i64 sh1, .int .i64 pr1, .int .i64 si1, .string ⟨st1.toArray⟩, .int .u64 sum1, .slice va tt1.length ca] 27)
  have b1 := bl_newZ (w.alloc (.cells #[.int .i64 k1, .int .i64 q1, .bool on1, .string ⟨c1.toArray⟩, .int .i64 sh1, .int .i64 pr1, .int .i64 si1, .string ⟨st1.toArray⟩, .int .u64 sum1, .slice va tt1.length ca] 27)) (.cells #[.int .i64 k2, .int .i64 q2, .bool on2, .string ⟨c2.toArray⟩, .int .i64 sh2, .int .i64 pr2, .int .i64 si2, .string ⟨st2.toArray⟩, .int .u64 sum2, .slice vb tt2.length cb] 27)
  have HB := Lib.hid (below2Z b0 b1)
  have VA := Lib.hid ((hv1.later b0).later b1)
  have VB := Lib.hid ((hv2.later b0).later b1)
  have FA := newQ w (.cells #[.int .i64 k1, .int .i64 q1, .bool on1, .string ⟨c1.toArray⟩, .int .i64 sh1, .int .i64 pr1, .int .i64 si1, .string ⟨st1.toArray⟩, .int .u64 sum1, .slice va tt1.length ca] 27)
  replace FA := upQ FA b1
  replace FA := Lib.hid FA
  have FB := newQ (w.alloc (.cells #[.int .i64 k1, .int .i64 q1, .bool on1, .string ⟨c1.toArray⟩, .int .i64 sh1, .int .i64 pr1, .int .i64 si1, .string ⟨st1.toArray⟩, .int .u64 sum1, .slice va tt1.length ca] 27)) (.cells #[.int .i64 k2, .int .i64 q2, .bool on2, .string ⟨c2.toArray⟩, .int .i64 sh2, .int .i64 pr2, .int .i64 si2, .string ⟨st2.toArray⟩, .int .u64 sum2, .slice vb tt2.length cb] 27)
  rw [World.size_alloc] at FB
  replace FB := Lib.hid FB
  clear b0 b1
  clear hv1 hv2
  go_enter Try.func5, Try.ntmps5
  obtain ⟨⟨FAc0, FAc1, FAc2, FAc3, FAc4, FAc5, FAc6, FAc7, FAc8, FAc9⟩, ⟨FAf0, FAf1, FAf2, FAf3, FAf4, FAf5, FAf6, FAf7, FAf8, FAf9⟩⟩ := blk10 FA.out
  go_wp2_with fail
  clear FAc0 FAc1 FAc2 FAc3 FAc4 FAc5 FAc6 FAc7 FAc8 FAc9 FAf0 FAf1 FAf2 FAf3 FAf4 FAf5 FAf6 FAf7 FAf8 FAf9
  refine (fewf_eq VA.out k1 q1 on1 c1 sh1 pr1 si1 st1 sum1 hc1 hs1 HF1).mono ?_
  rintro e w3 ⟨rfl, b3⟩
  replace FA := Lib.hid (upQ FA.out b3)
  replace FB := Lib.hid (upQ FB.out b3)
  replace VA := Lib.hid (VA.out.later b3)
  replace VB := Lib.hid (VB.out.later b3)
  replace HB := Lib.hid (below2Z HB.out b3)
  clear b3
  obtain ⟨⟨FBc0, FBc1, FBc2, FBc3, FBc4, FBc5, FBc6, FBc7, FBc8, FBc9⟩, ⟨FBf0, FBf1, FBf2, FBf3, FBf4, FBf5, FBf6, FBf7, FBf8, FBf9⟩⟩ := blk10 FB.out
  go_wp2_with fail
  clear FBc0 FBc1 FBc2 FBc3 FBc4 FBc5 FBc6 FBc7 FBc8 FBc9 FBf0 FBf1 FBf2 FBf3 FBf4 FBf5 FBf6 FBf7 FBf8 FBf9
  refine (fewf_eq VB.out k2 q2 on2 c2 sh2 pr2 si2 st2 sum2 hc2 hs2 HF2).mono ?_
  rintro e w4 ⟨rfl, b4⟩
  replace FA := Lib.hid (upQ FA.out b4)
  replace FB := Lib.hid (upQ FB.out b4)
  replace VA := Lib.hid (VA.out.later b4)
  replace VB := Lib.hid (VB.out.later b4)
  replace HB := Lib.hid (below2Z HB.out b4)
  clear b4
  obtain ⟨⟨FAc0, FAc1, FAc2, FAc3, FAc4, FAc5, FAc6, FAc7, FAc8, FAc9⟩, ⟨FAf0, FAf1, FAf2, FAf3, FAf4, FAf5, FAf6, FAf7, FAf8, FAf9⟩⟩ := blk10 FA.out
  go_wp2_with fail
  clear FAc0 FAc1 FAc2 FAc3 FAc4 FAc5 FAc6 FAc7 FAc8 FAc9 FAf0 FAf1 FAf2 FAf3 FAf4 FAf5 FAf6 FAf7 FAf8 FAf9
  refine (frenc_any VA.out HSA.out k1 q1 on1 c1 sh1 pr1 si1 st1 sum1 hu1 n1 n2 HEA).mono ?_
  rintro e w5 ⟨rfl, b5⟩
  replace FA := Lib.hid (upQ FA.out b5)
  replace FB := Lib.hid (upQ FB.out b5)
  replace VA := Lib.hid (VA.out.later b5)
  replace VB := Lib.hid (VB.out.later b5)
  replace HB := Lib.hid (below2Z HB.out b5)
  clear b5
  obtain ⟨⟨FAc0, FAc1, FAc2, FAc3, FAc4, FAc5, FAc6, FAc7, FAc8, FAc9⟩, ⟨FAf0, FAf1, FAf2, FAf3, FAf4, FAf5, FAf6, FAf7, FAf8, FAf9⟩⟩ := blk10 FA.out
  go_wp2_with fail
  clear FAc0 FAc1 FAc2 FAc3 FAc4 FAc5 FAc6 FAc7 FAc8 FAc9 FAf0 FAf1 FAf2 FAf3 FAf4 FAf5 FAf6 FAf7 FAf8 FAf9
  refine (frmay_eqF VA.out HSA.out n1 n2 HMA).mono ?_
  rintro e w6 ⟨rfl, b6⟩
  replace FA := Lib.hid (upQ FA.out b6)
  replace FB := Lib.hid (upQ FB.out b6)
  replace VA := Lib.hid (VA.out.later b6)
  replace VB := Lib.hid (VB.out.later b6)
  replace HB := Lib.hid (below2Z HB.out b6)
  clear b6
  go_wp2_with fail
  refine (frdec_any l1 hl1 HDA _).mono ?_
  rintro e w7 ⟨v7, rfl, hov7, b7⟩
  replace FA := Lib.hid (upQ FA.out b7)
  replace FB := Lib.hid (upQ FB.out b7)
  replace VA := Lib.hid (VA.out.later b7)
  replace VB := Lib.hid (VB.out.later b7)
  replace HB := Lib.hid (below2Z HB.out b7)
  obtain ⟨va7, vc7, rfl, -⟩ := Tab.open' (OwnR.tab hov7)
  have VG := Lib.hid (OwnR.tab hov7)
  clear hov7
  clear b7
  obtain ⟨⟨FAc0, FAc1, FAc2, FAc3, FAc4, FAc5, FAc6, FAc7, FAc8, FAc9⟩, ⟨FAf0, FAf1, FAf2, FAf3, FAf4, FAf5, FAf6, FAf7, FAf8, FAf9⟩⟩ := blk10 FA.out
  have hAl := (Array.getElem?_eq_some_iff.1 FA.out).1
  go_wp2_with fail
  clear FAc0 FAc1 FAc2 FAc3 FAc4 FAc5 FAc6 FAc7 FAc8 FAc9 FAf0 FAf1 FAf2 FAf3 FAf4 FAf5 FAf6 FAf7 FAf8 FAf9 hAl
  have b8 := bl_newZ w7 (.cells #[.int .i64 k1, .int .i64 q1, .bool on1, .string ⟨c1.toArray⟩, .int .i64 sh1, .int .i64 pr1, .int .i64 si1, .string ⟨st1.toArray⟩, .int .u64 sum1, .slice va7 tt1.length vc7] 27)
  have G := newQ w7 (.cells #[.int .i64 k1, .int .i64 q1, .bool on1, .string ⟨c1.toArray⟩, .int .i64 sh1, .int .i64 pr1, .int .i64 si1, .string ⟨st1.toArray⟩, .int .u64 sum1, .slice va7 tt1.length vc7] 27)
  have hG : w.heap.size ≤ w7.heap.size := HB.out.size
  replace FA := Lib.hid (upQ FA.out b8)
  replace FB := Lib.hid (upQ FB.out b8)
  replace VA := Lib.hid (VA.out.later b8)
  replace VB := Lib.hid (VB.out.later b8)
  replace VG := Lib.hid (Tab.later VG.out b8)
  replace HB := Lib.hid (below2Z HB.out b8)
  clear b8
  replace G := Lib.hid G
  generalize w7.alloc (.cells #[.int .i64 k1, .int .i64 q1, .bool on1, .string ⟨c1.toArray⟩, .int .i64 sh1, .int .i64 pr1, .int .i64 si1, .string ⟨st1.toArray⟩, .int .u64 sum1, .slice va7 tt1.length vc7] 27) = w9 at FA FB G VA VB VG HB ⊢
  generalize w7.heap.size = BG at G hG ⊢
  refine (frsame_eqF VG.out VA.out (Lib.hid (frSame_iff.2 rfl))).mono ?_
  rintro e w10 ⟨rfl, b10⟩
  replace FA := Lib.hid (upQ FA.out b10)
  replace FB := Lib.hid (upQ FB.out b10)
  replace G := Lib.hid (upQ G.out b10)
  replace VA := Lib.hid (VA.out.later b10)
  replace VB := Lib.hid (VB.out.later b10)
  replace VG := Lib.hid (Tab.later VG.out b10)
  replace HB := Lib.hid (below2Z HB.out b10)
  clear b10
  obtain ⟨⟨FBc0, FBc1, FBc2, FBc3, FBc4, FBc5, FBc6, FBc7, FBc8, FBc9⟩, ⟨FBf0, FBf1, FBf2, FBf3, FBf4, FBf5, FBf6, FBf7, FBf8, FBf9⟩⟩ := blk10 FB.out
  go_wp2_with fail
  clear FBc0 FBc1 FBc2 FBc3 FBc4 FBc5 FBc6 FBc7 FBc8 FBc9 FBf0 FBf1 FBf2 FBf3 FBf4 FBf5 FBf6 FBf7 FBf8 FBf9
  refine (frenc_any VB.out HSB.out k2 q2 on2 c2 sh2 pr2 si2 st2 sum2 hu2 n3 n4 HEB).mono ?_
  rintro e w11 ⟨rfl, b11⟩
  replace FA := Lib.hid (upQ FA.out b11)
  replace FB := Lib.hid (upQ FB.out b11)
  replace G := Lib.hid (upQ G.out b11)
  replace VA := Lib.hid (VA.out.later b11)
  replace VB := Lib.hid (VB.out.later b11)
  replace VG := Lib.hid (Tab.later VG.out b11)
  replace HB := Lib.hid (below2Z HB.out b11)
  clear b11
  go_wp2_with fail
  refine (frdec_any l hl2 HDS _).mono ?_
  rintro e w12 ⟨v12, rfl, hov12, b12⟩
  replace FA := Lib.hid (upQ FA.out b12)
  replace FB := Lib.hid (upQ FB.out b12)
  replace G := Lib.hid (upQ G.out b12)
  replace VA := Lib.hid (VA.out.later b12)
  replace VB := Lib.hid (VB.out.later b12)
  replace VG := Lib.hid (Tab.later VG.out b12)
  replace HB := Lib.hid (below2Z HB.out b12)
  obtain ⟨va12, vc12, rfl, -⟩ := Tab.open' (OwnR.tab hov12)
  have VH := Lib.hid (OwnR.tab hov12)
  clear hov12
  clear b12
  go_wp2_with fail
  have b13 := bl_newZ w12 (.cells #[.int .i64 0, .int .i64 0, .bool false, .string ⟨#[]⟩, .int .i64 0, .int .i64 0, .int .i64 0, .string ⟨#[]⟩, .int .u64 0, .slice va12 0 vc12] 27)
  have H := newQ w12 (.cells #[.int .i64 0, .int .i64 0, .bool false, .string ⟨#[]⟩, .int .i64 0, .int .i64 0, .int .i64 0, .string ⟨#[]⟩, .int .u64 0, .slice va12 0 vc12] 27)
  have hH : w.heap.size ≤ w12.heap.size := HB.out.size
  replace FA := Lib.hid (upQ FA.out b13)
  replace FB := Lib.hid (upQ FB.out b13)
  replace G := Lib.hid (upQ G.out b13)
  replace VA := Lib.hid (VA.out.later b13)
  replace VB := Lib.hid (VB.out.later b13)
  replace VG := Lib.hid (Tab.later VG.out b13)
  replace VH := Lib.hid (Tab.later VH.out b13)
  replace HB := Lib.hid (below2Z HB.out b13)
  clear b13
  replace H := Lib.hid H
  generalize w12.alloc (.cells #[.int .i64 0, .int .i64 0, .bool false, .string ⟨#[]⟩, .int .i64 0, .int .i64 0, .int .i64 0, .string ⟨#[]⟩, .int .u64 0, .slice va12 0 vc12] 27) = w14 at FA FB G H VA VB VG VH HB ⊢
  generalize w12.heap.size = BH at H hH ⊢
  refine (frenc_any VH.out hsn 0 0 false [] 0 0 0 [] 0 (by decide) (by decide) (by decide) (Lib.hid fwb_zero)).mono ?_
  rintro e w15 ⟨rfl, b15⟩
  replace FA := Lib.hid (upQ FA.out b15)
  replace FB := Lib.hid (upQ FB.out b15)
  replace G := Lib.hid (upQ G.out b15)
  replace H := Lib.hid (upQ H.out b15)
  replace VA := Lib.hid (VA.out.later b15)
  replace VB := Lib.hid (VB.out.later b15)
  replace VG := Lib.hid (Tab.later VG.out b15)
  replace VH := Lib.hid (Tab.later VH.out b15)
  replace HB := Lib.hid (below2Z HB.out b15)
  clear b15
  obtain ⟨⟨Hc0, Hc1, Hc2, Hc3, Hc4, Hc5, Hc6, Hc7, Hc8, Hc9⟩, ⟨Hf0, Hf1, Hf2, Hf3, Hf4, Hf5, Hf6, Hf7, Hf8, Hf9⟩⟩ := blk10 H.out
  go_wp2_with fail
  clear Hc0 Hc1 Hc2 Hc3 Hc4 Hc5 Hc6 Hc7 Hc8 Hc9 Hf0 Hf1 Hf2 Hf3 Hf4 Hf5 Hf6 Hf7 Hf8 Hf9
  refine (frsame_eqF VH.out (OwnR.tab (ownR_nil _ 0)) (Lib.hid (frSame_iff.2 rfl))).mono ?_
  rintro e w16 ⟨rfl, b16⟩
  replace FA := Lib.hid (upQ FA.out b16)
  replace FB := Lib.hid (upQ FB.out b16)
  replace G := Lib.hid (upQ G.out b16)
  replace H := Lib.hid (upQ H.out b16)
  replace VA := Lib.hid (VA.out.later b16)
  replace VB := Lib.hid (VB.out.later b16)
  replace VG := Lib.hid (Tab.later VG.out b16)
  replace VH := Lib.hid (Tab.later VH.out b16)
  replace HB := Lib.hid (below2Z HB.out b16)
  clear b16
  go_wp2_with fail
  refine (live6 _).mono ?_
  rintro e w17 ⟨rfl, b17⟩
  replace FA := Lib.hid (upQ FA.out b17)
  replace FB := Lib.hid (upQ FB.out b17)
  replace G := Lib.hid (upQ G.out b17)
  replace H := Lib.hid (upQ H.out b17)
  replace VA := Lib.hid (VA.out.later b17)
  replace VB := Lib.hid (VB.out.later b17)
  replace VG := Lib.hid (Tab.later VG.out b17)
  replace VH := Lib.hid (Tab.later VH.out b17)
  replace HB := Lib.hid (below2Z HB.out b17)
  clear b17
  go_wp2_with fail
  go_ret
  exact ⟨rfl, HB.out⟩

set_option maxHeartbeats 3200000 in
set_option maxRecDepth 100000 in
theorem fwb_nyo {w : World} {v1 v2 : Value} {k1 q1 sh1 pr1 si1 : Int} {on1 : Bool} {c1 st1 : List UInt8} {sum1 : Nat} {tt1 : List Row} {k2 q2 sh2 pr2 si2 : Int} {on2 : Bool} {c2 st2 : List UInt8} {sum2 : Nat} {tt2 : List Row} (hv1 : Tab w v1 tt1) (hv2 : Tab w v2 tt2) (l : List UInt8) (hc1 : c1.length ≤ maxLen) (hs1 : st1.length ≤ maxLen) (hc2 : c2.length ≤ maxLen) (hs2 : st2.length ≤ maxLen) (HF1 : Hid (fewF ⟨k1, q1, on1, c1, ⟨sh1, pr1, si1, st1⟩, sum1, tt1⟩ = true)) (HF2 : Hid (fewF ⟨k2, q2, on2, c2, ⟨sh2, pr2, si2, st2⟩, sum2, tt2⟩ = true)) (hl : l.length ≤ 1500) (hu1 : sum1 < 18446744073709551616) (hu2 : sum2 < 18446744073709551616) (HMA : Hid (frMay ⟨k1, q1, on1, c1, ⟨sh1, pr1, si1, st1⟩, sum1, tt1⟩ = false)) (HEA : Hid (frEnc ⟨k1, q1, on1, c1, ⟨sh1, pr1, si1, st1⟩, sum1, tt1⟩ = ([], 1))) {l2 : List UInt8} (HEB : Hid (frEnc ⟨k2, q2, on2, c2, ⟨sh2, pr2, si2, st2⟩, sum2, tt2⟩ = (l2, 0))) {k3 q3 sh3 pr3 si3 : Int} {on3 : Bool} {c3 st3 : List UInt8} {sum3 : Nat} {tt3 : List Row} (HDS : Hid (frDec l = (⟨k3, q3, on3, c3, ⟨sh3, pr3, si3, st3⟩, sum3, tt3⟩, 0))) (HEH : Hid (frEnc ⟨k3, q3, on3, c3, ⟨sh3, pr3, si3, st3⟩, sum3, tt3⟩ = (l, 0))) (HSH : Hid (Short tt3)) (m1 : c3.length ≤ 4294967296) (m2 : st3.length ≤ 4294967296) (hu3 : sum3 < 18446744073709551616) :
    Calls Try.prog 5 #[.agg #[.int .i64 k1, .int .i64 q1, .bool on1, .string ⟨c1.toArray⟩, .int .i64 sh1, .int .i64 pr1, .int .i64 si1, .string ⟨st1.toArray⟩, .int .u64 sum1, v1], .agg #[.int .i64 k2, .int .i64 q2, .bool on2, .string ⟨c2.toArray⟩, .int .i64 sh2, .int .i64 pr2, .int .i64 si2, .string ⟨st2.toArray⟩, .int .u64 sum2, v2], .string ⟨l.toArray⟩] w fun e w' => e = .returned (.bool true) ∧ Below w.heap.size w w' := by
  have tl : decide (1500 < (l.length : Int)) = false := by rw [decide_eq_false_iff_not]; omega
  have tl2 : decide (1500 < l.length) = false := by rw [decide_eq_false_iff_not]; omega
  obtain ⟨s1, n1, n2⟩ := fewF_get HF1.out
  obtain ⟨s2, n3, n4⟩ := fewF_get HF2.out
  simp only at s1 n1 n2 s2 n3 n4
  have HSA := Lib.hid s1
  have HSB := Lib.hid s2
  clear s1 s2
  have hl2 : l.length ≤ 4294967296 := by omega
  have hsn : Short [] := fun r hr => by simp at hr
  have hs1z : (⟨l.toArray⟩ : ByteArray).size = l.length := size_bytes l
  obtain ⟨va, ca, rfl, -⟩ := hv1.open'
  obtain ⟨vb, cb, rfl, -⟩ := hv2.open'
  have b0 := bl_newZ w (.cells #[.int .i64 k1, .int .i64 q1, .bool on1, .string ⟨c1.toArray⟩, .int .i64 sh1, .int .i64 pr1, .int .i64 si1, .string ⟨st1.toArray⟩, .int .u64 sum1, .slice va tt1.length ca] 27)
  have b1 := bl_newZ (w.alloc (.cells #[.int .i64 k1, .int .i64 q1, .bool on1, .string ⟨c1.toArray⟩, .int .i64 sh1, .int .i64 pr1, .int .i64 si1, .string ⟨st1.toArray⟩, .int .u64 sum1, .slice va tt1.length ca] 27)) (.cells #[.int .i64 k2, .int .i64 q2, .bool on2, .string ⟨c2.toArray⟩, .int .i64 sh2, .int .i64 pr2, .int .i64 si2, .string ⟨st2.toArray⟩, .int .u64 sum2, .slice vb tt2.length cb] 27)
  have HB := Lib.hid (below2Z b0 b1)
  have VA := Lib.hid ((hv1.later b0).later b1)
  have VB := Lib.hid ((hv2.later b0).later b1)
  have FA := newQ w (.cells #[.int .i64 k1, .int .i64 q1, .bool on1, .string ⟨c1.toArray⟩, .int .i64 sh1, .int .i64 pr1, .int .i64 si1, .string ⟨st1.toArray⟩, .int .u64 sum1, .slice va tt1.length ca] 27)
  replace FA := upQ FA b1
  replace FA := Lib.hid FA
  have FB := newQ (w.alloc (.cells #[.int .i64 k1, .int .i64 q1, .bool on1, .string ⟨c1.toArray⟩, .int .i64 sh1, .int .i64 pr1, .int .i64 si1, .string ⟨st1.toArray⟩, .int .u64 sum1, .slice va tt1.length ca] 27)) (.cells #[.int .i64 k2, .int .i64 q2, .bool on2, .string ⟨c2.toArray⟩, .int .i64 sh2, .int .i64 pr2, .int .i64 si2, .string ⟨st2.toArray⟩, .int .u64 sum2, .slice vb tt2.length cb] 27)
  rw [World.size_alloc] at FB
  replace FB := Lib.hid FB
  clear b0 b1
  clear hv1 hv2
  go_enter Try.func5, Try.ntmps5
  obtain ⟨⟨FAc0, FAc1, FAc2, FAc3, FAc4, FAc5, FAc6, FAc7, FAc8, FAc9⟩, ⟨FAf0, FAf1, FAf2, FAf3, FAf4, FAf5, FAf6, FAf7, FAf8, FAf9⟩⟩ := blk10 FA.out
  go_wp2_with fail
  clear FAc0 FAc1 FAc2 FAc3 FAc4 FAc5 FAc6 FAc7 FAc8 FAc9 FAf0 FAf1 FAf2 FAf3 FAf4 FAf5 FAf6 FAf7 FAf8 FAf9
  refine (fewf_eq VA.out k1 q1 on1 c1 sh1 pr1 si1 st1 sum1 hc1 hs1 HF1).mono ?_
  rintro e w3 ⟨rfl, b3⟩
  replace FA := Lib.hid (upQ FA.out b3)
  replace FB := Lib.hid (upQ FB.out b3)
  replace VA := Lib.hid (VA.out.later b3)
  replace VB := Lib.hid (VB.out.later b3)
  replace HB := Lib.hid (below2Z HB.out b3)
  clear b3
  obtain ⟨⟨FBc0, FBc1, FBc2, FBc3, FBc4, FBc5, FBc6, FBc7, FBc8, FBc9⟩, ⟨FBf0, FBf1, FBf2, FBf3, FBf4, FBf5, FBf6, FBf7, FBf8, FBf9⟩⟩ := blk10 FB.out
  go_wp2_with fail
  clear FBc0 FBc1 FBc2 FBc3 FBc4 FBc5 FBc6 FBc7 FBc8 FBc9 FBf0 FBf1 FBf2 FBf3 FBf4 FBf5 FBf6 FBf7 FBf8 FBf9
  refine (fewf_eq VB.out k2 q2 on2 c2 sh2 pr2 si2 st2 sum2 hc2 hs2 HF2).mono ?_
  rintro e w4 ⟨rfl, b4⟩
  replace FA := Lib.hid (upQ FA.out b4)
  replace FB := Lib.hid (upQ FB.out b4)
  replace VA := Lib.hid (VA.out.later b4)
  replace VB := Lib.hid (VB.out.later b4)
  replace HB := Lib.hid (below2Z HB.out b4)
  clear b4
  obtain ⟨⟨FAc0, FAc1, FAc2, FAc3, FAc4, FAc5, FAc6, FAc7, FAc8, FAc9⟩, ⟨FAf0, FAf1, FAf2, FAf3, FAf4, FAf5, FAf6, FAf7, FAf8, FAf9⟩⟩ := blk10 FA.out
  go_wp2_with fail
  clear FAc0 FAc1 FAc2 FAc3 FAc4 FAc5 FAc6 FAc7 FAc8 FAc9 FAf0 FAf1 FAf2 FAf3 FAf4 FAf5 FAf6 FAf7 FAf8 FAf9
  refine (frenc_any VA.out HSA.out k1 q1 on1 c1 sh1 pr1 si1 st1 sum1 hu1 n1 n2 HEA).mono ?_
  rintro e w5 ⟨rfl, b5⟩
  replace FA := Lib.hid (upQ FA.out b5)
  replace FB := Lib.hid (upQ FB.out b5)
  replace VA := Lib.hid (VA.out.later b5)
  replace VB := Lib.hid (VB.out.later b5)
  replace HB := Lib.hid (below2Z HB.out b5)
  clear b5
  obtain ⟨⟨FAc0, FAc1, FAc2, FAc3, FAc4, FAc5, FAc6, FAc7, FAc8, FAc9⟩, ⟨FAf0, FAf1, FAf2, FAf3, FAf4, FAf5, FAf6, FAf7, FAf8, FAf9⟩⟩ := blk10 FA.out
  go_wp2_with fail
  clear FAc0 FAc1 FAc2 FAc3 FAc4 FAc5 FAc6 FAc7 FAc8 FAc9 FAf0 FAf1 FAf2 FAf3 FAf4 FAf5 FAf6 FAf7 FAf8 FAf9
  refine (frmay_eqF VA.out HSA.out n1 n2 HMA).mono ?_
  rintro e w6 ⟨rfl, b6⟩
  replace FA := Lib.hid (upQ FA.out b6)
  replace FB := Lib.hid (upQ FB.out b6)
  replace VA := Lib.hid (VA.out.later b6)
  replace VB := Lib.hid (VB.out.later b6)
  replace HB := Lib.hid (below2Z HB.out b6)
  clear b6
  go_wp2_with fail
  refine (frdec_any [] (by decide) (Lib.hid fwb_nil) _).mono ?_
  rintro e w7 ⟨v7, rfl, hov7, b7⟩
  replace FA := Lib.hid (upQ FA.out b7)
  replace FB := Lib.hid (upQ FB.out b7)
  replace VA := Lib.hid (VA.out.later b7)
  replace VB := Lib.hid (VB.out.later b7)
  replace HB := Lib.hid (below2Z HB.out b7)
  obtain ⟨va7, vc7, rfl, -⟩ := Tab.open' (OwnR.tab hov7)
  have VG := Lib.hid (OwnR.tab hov7)
  clear hov7
  clear b7
  obtain ⟨⟨FBc0, FBc1, FBc2, FBc3, FBc4, FBc5, FBc6, FBc7, FBc8, FBc9⟩, ⟨FBf0, FBf1, FBf2, FBf3, FBf4, FBf5, FBf6, FBf7, FBf8, FBf9⟩⟩ := blk10 FB.out
  have hBl := (Array.getElem?_eq_some_iff.1 FB.out).1
  go_wp2_with fail
  clear FBc0 FBc1 FBc2 FBc3 FBc4 FBc5 FBc6 FBc7 FBc8 FBc9 FBf0 FBf1 FBf2 FBf3 FBf4 FBf5 FBf6 FBf7 FBf8 FBf9 hBl
  have b8 := bl_newZ w7 (.cells #[.int .i64 0, .int .i64 0, .bool false, .string ⟨#[]⟩, .int .i64 0, .int .i64 0, .int .i64 0, .string ⟨#[]⟩, .int .u64 0, .slice va7 0 vc7] 27)
  have G := newQ w7 (.cells #[.int .i64 0, .int .i64 0, .bool false, .string ⟨#[]⟩, .int .i64 0, .int .i64 0, .int .i64 0, .string ⟨#[]⟩, .int .u64 0, .slice va7 0 vc7] 27)
  have hG : w.heap.size ≤ w7.heap.size := HB.out.size
  replace FA := Lib.hid (upQ FA.out b8)
  replace FB := Lib.hid (upQ FB.out b8)
  replace VA := Lib.hid (VA.out.later b8)
  replace VB := Lib.hid (VB.out.later b8)
  replace VG := Lib.hid (Tab.later VG.out b8)
  replace HB := Lib.hid (below2Z HB.out b8)
  clear b8
  replace G := Lib.hid G
  generalize w7.alloc (.cells #[.int .i64 0, .int .i64 0, .bool false, .string ⟨#[]⟩, .int .i64 0, .int .i64 0, .int .i64 0, .string ⟨#[]⟩, .int .u64 0, .slice va7 0 vc7] 27) = w9 at FA FB G VA VB VG HB ⊢
  generalize w7.heap.size = BG at G hG ⊢
  clear G
  clear hG
  refine (frenc_any VB.out HSB.out k2 q2 on2 c2 sh2 pr2 si2 st2 sum2 hu2 n3 n4 HEB).mono ?_
  rintro e w10 ⟨rfl, b10⟩
  replace FA := Lib.hid (upQ FA.out b10)
  replace FB := Lib.hid (upQ FB.out b10)
  replace VA := Lib.hid (VA.out.later b10)
  replace VB := Lib.hid (VB.out.later b10)
  replace VG := Lib.hid (Tab.later VG.out b10)
  replace HB := Lib.hid (below2Z HB.out b10)
  clear b10
  go_wp2_with fail
  refine (frdec_any l hl2 HDS _).mono ?_
  rintro e w11 ⟨v11, rfl, hov11, b11⟩
  replace FA := Lib.hid (upQ FA.out b11)
  replace FB := Lib.hid (upQ FB.out b11)
  replace VA := Lib.hid (VA.out.later b11)
  replace VB := Lib.hid (VB.out.later b11)
  replace VG := Lib.hid (Tab.later VG.out b11)
  replace HB := Lib.hid (below2Z HB.out b11)
  obtain ⟨va11, vc11, rfl, -⟩ := Tab.open' (OwnR.tab hov11)
  have VH := Lib.hid (OwnR.tab hov11)
  clear hov11
  clear b11
  go_wp2_with fail
  have b12 := bl_newZ w11 (.cells #[.int .i64 k3, .int .i64 q3, .bool on3, .string ⟨c3.toArray⟩, .int .i64 sh3, .int .i64 pr3, .int .i64 si3, .string ⟨st3.toArray⟩, .int .u64 sum3, .slice va11 tt3.length vc11] 27)
  have H := newQ w11 (.cells #[.int .i64 k3, .int .i64 q3, .bool on3, .string ⟨c3.toArray⟩, .int .i64 sh3, .int .i64 pr3, .int .i64 si3, .string ⟨st3.toArray⟩, .int .u64 sum3, .slice va11 tt3.length vc11] 27)
  have hH : w.heap.size ≤ w11.heap.size := HB.out.size
  replace FA := Lib.hid (upQ FA.out b12)
  replace FB := Lib.hid (upQ FB.out b12)
  replace VA := Lib.hid (VA.out.later b12)
  replace VB := Lib.hid (VB.out.later b12)
  replace VG := Lib.hid (Tab.later VG.out b12)
  replace VH := Lib.hid (Tab.later VH.out b12)
  replace HB := Lib.hid (below2Z HB.out b12)
  clear b12
  replace H := Lib.hid H
  generalize w11.alloc (.cells #[.int .i64 k3, .int .i64 q3, .bool on3, .string ⟨c3.toArray⟩, .int .i64 sh3, .int .i64 pr3, .int .i64 si3, .string ⟨st3.toArray⟩, .int .u64 sum3, .slice va11 tt3.length vc11] 27) = w13 at FA FB H VA VB VG VH HB ⊢
  generalize w11.heap.size = BH at H hH ⊢
  refine (frenc_any VH.out HSH.out k3 q3 on3 c3 sh3 pr3 si3 st3 sum3 hu3 m1 m2 HEH).mono ?_
  rintro e w14 ⟨rfl, b14⟩
  replace FA := Lib.hid (upQ FA.out b14)
  replace FB := Lib.hid (upQ FB.out b14)
  replace H := Lib.hid (upQ H.out b14)
  replace VA := Lib.hid (VA.out.later b14)
  replace VB := Lib.hid (VB.out.later b14)
  replace VG := Lib.hid (Tab.later VG.out b14)
  replace VH := Lib.hid (Tab.later VH.out b14)
  replace HB := Lib.hid (below2Z HB.out b14)
  clear b14
  go_wp2_with fail
  refine (live6 _).mono ?_
  rintro e w15 ⟨rfl, b15⟩
  replace FA := Lib.hid (upQ FA.out b15)
  replace FB := Lib.hid (upQ FB.out b15)
  replace H := Lib.hid (upQ H.out b15)
  replace VA := Lib.hid (VA.out.later b15)
  replace VB := Lib.hid (VB.out.later b15)
  replace VG := Lib.hid (Tab.later VG.out b15)
  replace VH := Lib.hid (Tab.later VH.out b15)
  replace HB := Lib.hid (below2Z HB.out b15)
  clear b15
  go_wp2_with fail
  go_ret
  exact ⟨rfl, HB.out⟩

set_option maxHeartbeats 3200000 in
set_option maxRecDepth 100000 in
theorem fwb_nye {w : World} {v1 v2 : Value} {k1 q1 sh1 pr1 si1 : Int} {on1 : Bool} {c1 st1 : List UInt8} {sum1 : Nat} {tt1 : List Row} {k2 q2 sh2 pr2 si2 : Int} {on2 : Bool} {c2 st2 : List UInt8} {sum2 : Nat} {tt2 : List Row} (hv1 : Tab w v1 tt1) (hv2 : Tab w v2 tt2) (l : List UInt8) (hc1 : c1.length ≤ maxLen) (hs1 : st1.length ≤ maxLen) (hc2 : c2.length ≤ maxLen) (hs2 : st2.length ≤ maxLen) (HF1 : Hid (fewF ⟨k1, q1, on1, c1, ⟨sh1, pr1, si1, st1⟩, sum1, tt1⟩ = true)) (HF2 : Hid (fewF ⟨k2, q2, on2, c2, ⟨sh2, pr2, si2, st2⟩, sum2, tt2⟩ = true)) (hl : l.length ≤ 1500) (hu1 : sum1 < 18446744073709551616) (hu2 : sum2 < 18446744073709551616) (HMA : Hid (frMay ⟨k1, q1, on1, c1, ⟨sh1, pr1, si1, st1⟩, sum1, tt1⟩ = false)) (HEA : Hid (frEnc ⟨k1, q1, on1, c1, ⟨sh1, pr1, si1, st1⟩, sum1, tt1⟩ = ([], 1))) {l2 : List UInt8} (HEB : Hid (frEnc ⟨k2, q2, on2, c2, ⟨sh2, pr2, si2, st2⟩, sum2, tt2⟩ = (l2, 0))) {e4 : Nat} (HDS : Hid (frDec l = (⟨0, 0, false, [], ⟨0, 0, 0, []⟩, 0, []⟩, e4))) (he4 : e4 ≠ 0) :
    Calls Try.prog 5 #[.agg #[.int .i64 k1, .int .i64 q1, .bool on1, .string ⟨c1.toArray⟩, .int .i64 sh1, .int .i64 pr1, .int .i64 si1, .string ⟨st1.toArray⟩, .int .u64 sum1, v1], .agg #[.int .i64 k2, .int .i64 q2, .bool on2, .string ⟨c2.toArray⟩, .int .i64 sh2, .int .i64 pr2, .int .i64 si2, .string ⟨st2.toArray⟩, .int .u64 sum2, v2], .string ⟨l.toArray⟩] w fun e w' => e = .returned (.bool true) ∧ Below w.heap.size w w' := by
  have tl : decide (1500 < (l.length : Int)) = false := by rw [decide_eq_false_iff_not]; omega
  have tl2 : decide (1500 < l.length) = false := by rw [decide_eq_false_iff_not]; omega
  obtain ⟨s1, n1, n2⟩ := fewF_get HF1.out
  obtain ⟨s2, n3, n4⟩ := fewF_get HF2.out
  simp only at s1 n1 n2 s2 n3 n4
  have HSA := Lib.hid s1
  have HSB := Lib.hid s2
  clear s1 s2
  have hl2 : l.length ≤ 4294967296 := by omega
  have hsn : Short [] := fun r hr => by simp at hr
  have t4 : ((e4 : Int) != 0) = true := by simp; omega
  clear he4
  have hs1z : (⟨l.toArray⟩ : ByteArray).size = l.length := size_bytes l
  obtain ⟨va, ca, rfl, -⟩ := hv1.open'
  obtain ⟨vb, cb, rfl, -⟩ := hv2.open'
  have b0 := bl_newZ w (.cells #[.int .i64 k1, .int .i64 q1, .bool on1, .string ⟨c1.toArray⟩, .int .i64 sh1, .int .i64 pr1, .int .i64 si1, .string ⟨st1.toArray⟩, .int .u64 sum1, .slice va tt1.length ca] 27)
  have b1 := bl_newZ (w.alloc (.cells #[.int .i64 k1, .int .i64 q1, .bool on1, .string ⟨c1.toArray⟩, .int .i64 sh1, .int .i64 pr1, .int .i64 si1, .string ⟨st1.toArray⟩, .int .u64 sum1, .slice va tt1.length ca] 27)) (.cells #[.int .i64 k2, .int .i64 q2, .bool on2, .string ⟨c2.toArray⟩, .int .i64 sh2, .int .i64 pr2, .int .i64 si2, .string ⟨st2.toArray⟩, .int .u64 sum2, .slice vb tt2.length cb] 27)
  have HB := Lib.hid (below2Z b0 b1)
  have VA := Lib.hid ((hv1.later b0).later b1)
  have VB := Lib.hid ((hv2.later b0).later b1)
  have FA := newQ w (.cells #[.int .i64 k1, .int .i64 q1, .bool on1, .string ⟨c1.toArray⟩, .int .i64 sh1, .int .i64 pr1, .int .i64 si1, .string ⟨st1.toArray⟩, .int .u64 sum1, .slice va tt1.length ca] 27)
  replace FA := upQ FA b1
  replace FA := Lib.hid FA
  have FB := newQ (w.alloc (.cells #[.int .i64 k1, .int .i64 q1, .bool on1, .string ⟨c1.toArray⟩, .int .i64 sh1, .int .i64 pr1, .int .i64 si1, .string ⟨st1.toArray⟩, .int .u64 sum1, .slice va tt1.length ca] 27)) (.cells #[.int .i64 k2, .int .i64 q2, .bool on2, .string ⟨c2.toArray⟩, .int .i64 sh2, .int .i64 pr2, .int .i64 si2, .string ⟨st2.toArray⟩, .int .u64 sum2, .slice vb tt2.length cb] 27)
  rw [World.size_alloc] at FB
  replace FB := Lib.hid FB
  clear b0 b1
  clear hv1 hv2
  go_enter Try.func5, Try.ntmps5
  obtain ⟨⟨FAc0, FAc1, FAc2, FAc3, FAc4, FAc5, FAc6, FAc7, FAc8, FAc9⟩, ⟨FAf0, FAf1, FAf2, FAf3, FAf4, FAf5, FAf6, FAf7, FAf8, FAf9⟩⟩ := blk10 FA.out
  go_wp2_with fail
  clear FAc0 FAc1 FAc2 FAc3 FAc4 FAc5 FAc6 FAc7 FAc8 FAc9 FAf0 FAf1 FAf2 FAf3 FAf4 FAf5 FAf6 FAf7 FAf8 FAf9
  refine (fewf_eq VA.out k1 q1 on1 c1 sh1 pr1 si1 st1 sum1 hc1 hs1 HF1).mono ?_
  rintro e w3 ⟨rfl, b3⟩
  replace FA := Lib.hid (upQ FA.out b3)
  replace FB := Lib.hid (upQ FB.out b3)
  replace VA := Lib.hid (VA.out.later b3)
  replace VB := Lib.hid (VB.out.later b3)
  replace HB := Lib.hid (below2Z HB.out b3)
  clear b3
  obtain ⟨⟨FBc0, FBc1, FBc2, FBc3, FBc4, FBc5, FBc6, FBc7, FBc8, FBc9⟩, ⟨FBf0, FBf1, FBf2, FBf3, FBf4, FBf5, FBf6, FBf7, FBf8, FBf9⟩⟩ := blk10 FB.out
  go_wp2_with fail
  clear FBc0 FBc1 FBc2 FBc3 FBc4 FBc5 FBc6 FBc7 FBc8 FBc9 FBf0 FBf1 FBf2 FBf3 FBf4 FBf5 FBf6 FBf7 FBf8 FBf9
  refine (fewf_eq VB.out k2 q2 on2 c2 sh2 pr2 si2 st2 sum2 hc2 hs2 HF2).mono ?_
  rintro e w4 ⟨rfl, b4⟩
  replace FA := Lib.hid (upQ FA.out b4)
  replace FB := Lib.hid (upQ FB.out b4)
  replace VA := Lib.hid (VA.out.later b4)
  replace VB := Lib.hid (VB.out.later b4)
  replace HB := Lib.hid (below2Z HB.out b4)
  clear b4
  obtain ⟨⟨FAc0, FAc1, FAc2, FAc3, FAc4, FAc5, FAc6, FAc7, FAc8, FAc9⟩, ⟨FAf0, FAf1, FAf2, FAf3, FAf4, FAf5, FAf6, FAf7, FAf8, FAf9⟩⟩ := blk10 FA.out
  go_wp2_with fail
  clear FAc0 FAc1 FAc2 FAc3 FAc4 FAc5 FAc6 FAc7 FAc8 FAc9 FAf0 FAf1 FAf2 FAf3 FAf4 FAf5 FAf6 FAf7 FAf8 FAf9
  refine (frenc_any VA.out HSA.out k1 q1 on1 c1 sh1 pr1 si1 st1 sum1 hu1 n1 n2 HEA).mono ?_
  rintro e w5 ⟨rfl, b5⟩
  replace FA := Lib.hid (upQ FA.out b5)
  replace FB := Lib.hid (upQ FB.out b5)
  replace VA := Lib.hid (VA.out.later b5)
  replace VB := Lib.hid (VB.out.later b5)
  replace HB := Lib.hid (below2Z HB.out b5)
  clear b5
  obtain ⟨⟨FAc0, FAc1, FAc2, FAc3, FAc4, FAc5, FAc6, FAc7, FAc8, FAc9⟩, ⟨FAf0, FAf1, FAf2, FAf3, FAf4, FAf5, FAf6, FAf7, FAf8, FAf9⟩⟩ := blk10 FA.out
  go_wp2_with fail
  clear FAc0 FAc1 FAc2 FAc3 FAc4 FAc5 FAc6 FAc7 FAc8 FAc9 FAf0 FAf1 FAf2 FAf3 FAf4 FAf5 FAf6 FAf7 FAf8 FAf9
  refine (frmay_eqF VA.out HSA.out n1 n2 HMA).mono ?_
  rintro e w6 ⟨rfl, b6⟩
  replace FA := Lib.hid (upQ FA.out b6)
  replace FB := Lib.hid (upQ FB.out b6)
  replace VA := Lib.hid (VA.out.later b6)
  replace VB := Lib.hid (VB.out.later b6)
  replace HB := Lib.hid (below2Z HB.out b6)
  clear b6
  go_wp2_with fail
  refine (frdec_any [] (by decide) (Lib.hid fwb_nil) _).mono ?_
  rintro e w7 ⟨v7, rfl, hov7, b7⟩
  replace FA := Lib.hid (upQ FA.out b7)
  replace FB := Lib.hid (upQ FB.out b7)
  replace VA := Lib.hid (VA.out.later b7)
  replace VB := Lib.hid (VB.out.later b7)
  replace HB := Lib.hid (below2Z HB.out b7)
  obtain ⟨va7, vc7, rfl, -⟩ := Tab.open' (OwnR.tab hov7)
  have VG := Lib.hid (OwnR.tab hov7)
  clear hov7
  clear b7
  obtain ⟨⟨FBc0, FBc1, FBc2, FBc3, FBc4, FBc5, FBc6, FBc7, FBc8, FBc9⟩, ⟨FBf0, FBf1, FBf2, FBf3, FBf4, FBf5, FBf6, FBf7, FBf8, FBf9⟩⟩ := blk10 FB.out
  have hBl := (Array.getElem?_eq_some_iff.1 FB.out).1
  go_wp2_with fail
  clear FBc0 FBc1 FBc2 FBc3 FBc4 FBc5 FBc6 FBc7 FBc8 FBc9 FBf0 FBf1 FBf2 FBf3 FBf4 FBf5 FBf6 FBf7 FBf8 FBf9 hBl
  have b8 := bl_newZ w7 (.cells #[.int .i64 0, .int .i64 0, .bool false, .string ⟨#[]⟩, .int .i64 0, .int .i64 0, .int .i64 0, .string ⟨#[]⟩, .int .u64 0, .slice va7 0 vc7] 27)
  have G := newQ w7 (.cells #[.int .i64 0, .int .i64 0, .bool false, .string ⟨#[]⟩, .int .i64 0, .int .i64 0, .int .i64 0, .string ⟨#[]⟩, .int .u64 0, .slice va7 0 vc7] 27)
  have hG : w.heap.size ≤ w7.heap.size := HB.out.size
  replace FA := Lib.hid (upQ FA.out b8)
  replace FB := Lib.hid (upQ FB.out b8)
  replace VA := Lib.hid (VA.out.later b8)
  replace VB := Lib.hid (VB.out.later b8)
  replace VG := Lib.hid (Tab.later VG.out b8)
  replace HB := Lib.hid (below2Z HB.out b8)
  clear b8
  replace G := Lib.hid G
  generalize w7.alloc (.cells #[.int .i64 0, .int .i64 0, .bool false, .string ⟨#[]⟩, .int .i64 0, .int .i64 0, .int .i64 0, .string ⟨#[]⟩, .int .u64 0, .slice va7 0 vc7] 27) = w9 at FA FB G VA VB VG HB ⊢
  generalize w7.heap.size = BG at G hG ⊢
  clear G
  clear hG
  refine (frenc_any VB.out HSB.out k2 q2 on2 c2 sh2 pr2 si2 st2 sum2 hu2 n3 n4 HEB).mono ?_
  rintro e w10 ⟨rfl, b10⟩
  replace FA := Lib.hid (upQ FA.out b10)
  replace FB := Lib.hid (upQ FB.out b10)
  replace VA := Lib.hid (VA.out.later b10)
  replace VB := Lib.hid (VB.out.later b10)
  replace VG := Lib.hid (Tab.later VG.out b10)
  replace HB := Lib.hid (below2Z HB.out b10)
  clear b10
  go_wp2_with fail
  refine (frdec_any l hl2 HDS _).mono ?_
  rintro e w11 ⟨v11, rfl, hov11, b11⟩
  replace FA := Lib.hid (upQ FA.out b11)
  replace FB := Lib.hid (upQ FB.out b11)
  replace VA := Lib.hid (VA.out.later b11)
  replace VB := Lib.hid (VB.out.later b11)
  replace VG := Lib.hid (Tab.later VG.out b11)
  replace HB := Lib.hid (below2Z HB.out b11)
  obtain ⟨va11, vc11, rfl, -⟩ := Tab.open' (OwnR.tab hov11)
  have VH := Lib.hid (OwnR.tab hov11)
  clear hov11
  clear b11
  go_wp2_with fail
  have b12 := bl_newZ w11 (.cells #[.int .i64 0, .int .i64 0, .bool false, .string ⟨#[]⟩, .int .i64 0, .int .i64 0, .int .i64 0, .string ⟨#[]⟩, .int .u64 0, .slice va11 0 vc11] 27)
  have H := newQ w11 (.cells #[.int .i64 0, .int .i64 0, .bool false, .string ⟨#[]⟩, .int .i64 0, .int .i64 0, .int .i64 0, .string ⟨#[]⟩, .int .u64 0, .slice va11 0 vc11] 27)
  have hH : w.heap.size ≤ w11.heap.size := HB.out.size
  replace FA := Lib.hid (upQ FA.out b12)
  replace FB := Lib.hid (upQ FB.out b12)
  replace VA := Lib.hid (VA.out.later b12)
  replace VB := Lib.hid (VB.out.later b12)
  replace VG := Lib.hid (Tab.later VG.out b12)
  replace VH := Lib.hid (Tab.later VH.out b12)
  replace HB := Lib.hid (below2Z HB.out b12)
  clear b12
  replace H := Lib.hid H
  generalize w11.alloc (.cells #[.int .i64 0, .int .i64 0, .bool false, .string ⟨#[]⟩, .int .i64 0, .int .i64 0, .int .i64 0, .string ⟨#[]⟩, .int .u64 0, .slice va11 0 vc11] 27) = w13 at FA FB H VA VB VG VH HB ⊢
  generalize w11.heap.size = BH at H hH ⊢
  refine (frenc_any VH.out hsn 0 0 false [] 0 0 0 [] 0 (by decide) (by decide) (by decide) (Lib.hid fwb_zero)).mono ?_
  rintro e w14 ⟨rfl, b14⟩
  replace FA := Lib.hid (upQ FA.out b14)
  replace FB := Lib.hid (upQ FB.out b14)
  replace H := Lib.hid (upQ H.out b14)
  replace VA := Lib.hid (VA.out.later b14)
  replace VB := Lib.hid (VB.out.later b14)
  replace VG := Lib.hid (Tab.later VG.out b14)
  replace VH := Lib.hid (Tab.later VH.out b14)
  replace HB := Lib.hid (below2Z HB.out b14)
  clear b14
  obtain ⟨⟨Hc0, Hc1, Hc2, Hc3, Hc4, Hc5, Hc6, Hc7, Hc8, Hc9⟩, ⟨Hf0, Hf1, Hf2, Hf3, Hf4, Hf5, Hf6, Hf7, Hf8, Hf9⟩⟩ := blk10 H.out
  go_wp2_with fail
  clear Hc0 Hc1 Hc2 Hc3 Hc4 Hc5 Hc6 Hc7 Hc8 Hc9 Hf0 Hf1 Hf2 Hf3 Hf4 Hf5 Hf6 Hf7 Hf8 Hf9
  refine (frsame_eqF VH.out (OwnR.tab (ownR_nil _ 0)) (Lib.hid (frSame_iff.2 rfl))).mono ?_
  rintro e w15 ⟨rfl, b15⟩
  replace FA := Lib.hid (upQ FA.out b15)
  replace FB := Lib.hid (upQ FB.out b15)
  replace H := Lib.hid (upQ H.out b15)
  replace VA := Lib.hid (VA.out.later b15)
  replace VB := Lib.hid (VB.out.later b15)
  replace VG := Lib.hid (Tab.later VG.out b15)
  replace VH := Lib.hid (Tab.later VH.out b15)
  replace HB := Lib.hid (below2Z HB.out b15)
  clear b15
  go_wp2_with fail
  refine (live6 _).mono ?_
  rintro e w16 ⟨rfl, b16⟩
  replace FA := Lib.hid (upQ FA.out b16)
  replace FB := Lib.hid (upQ FB.out b16)
  replace H := Lib.hid (upQ H.out b16)
  replace VA := Lib.hid (VA.out.later b16)
  replace VB := Lib.hid (VB.out.later b16)
  replace VG := Lib.hid (Tab.later VG.out b16)
  replace VH := Lib.hid (Tab.later VH.out b16)
  replace HB := Lib.hid (below2Z HB.out b16)
  clear b16
  go_wp2_with fail
  go_ret
  exact ⟨rfl, HB.out⟩

set_option maxHeartbeats 3200000 in
set_option maxRecDepth 100000 in
theorem fwb_nno {w : World} {v1 v2 : Value} {k1 q1 sh1 pr1 si1 : Int} {on1 : Bool} {c1 st1 : List UInt8} {sum1 : Nat} {tt1 : List Row} {k2 q2 sh2 pr2 si2 : Int} {on2 : Bool} {c2 st2 : List UInt8} {sum2 : Nat} {tt2 : List Row} (hv1 : Tab w v1 tt1) (hv2 : Tab w v2 tt2) (l : List UInt8) (hc1 : c1.length ≤ maxLen) (hs1 : st1.length ≤ maxLen) (hc2 : c2.length ≤ maxLen) (hs2 : st2.length ≤ maxLen) (HF1 : Hid (fewF ⟨k1, q1, on1, c1, ⟨sh1, pr1, si1, st1⟩, sum1, tt1⟩ = true)) (HF2 : Hid (fewF ⟨k2, q2, on2, c2, ⟨sh2, pr2, si2, st2⟩, sum2, tt2⟩ = true)) (hl : l.length ≤ 1500) (hu1 : sum1 < 18446744073709551616) (hu2 : sum2 < 18446744073709551616) (HMA : Hid (frMay ⟨k1, q1, on1, c1, ⟨sh1, pr1, si1, st1⟩, sum1, tt1⟩ = false)) (HEA : Hid (frEnc ⟨k1, q1, on1, c1, ⟨sh1, pr1, si1, st1⟩, sum1, tt1⟩ = ([], 1))) (HEB : Hid (frEnc ⟨k2, q2, on2, c2, ⟨sh2, pr2, si2, st2⟩, sum2, tt2⟩ = ([], 1))) {k3 q3 sh3 pr3 si3 : Int} {on3 : Bool} {c3 st3 : List UInt8} {sum3 : Nat} {tt3 : List Row} (HDS : Hid (frDec l = (⟨k3, q3, on3, c3, ⟨sh3, pr3, si3, st3⟩, sum3, tt3⟩, 0))) (HEH : Hid (frEnc ⟨k3, q3, on3, c3, ⟨sh3, pr3, si3, st3⟩, sum3, tt3⟩ = (l, 0))) (HSH : Hid (Short tt3)) (m1 : c3.length ≤ 4294967296) (m2 : st3.length ≤ 4294967296) (hu3 : sum3 < 18446744073709551616) :
    Calls Try.prog 5 #[.agg #[.int .i64 k1, .int .i64 q1, .bool on1, .string ⟨c1.toArray⟩, .int .i64 sh1, .int .i64 pr1, .int .i64 si1, .string ⟨st1.toArray⟩, .int .u64 sum1, v1], .agg #[.int .i64 k2, .int .i64 q2, .bool on2, .string ⟨c2.toArray⟩, .int .i64 sh2, .int .i64 pr2, .int .i64 si2, .string ⟨st2.toArray⟩, .int .u64 sum2, v2], .string ⟨l.toArray⟩] w fun e w' => e = .returned (.bool true) ∧ Below w.heap.size w w' := by
  have tl : decide (1500 < (l.length : Int)) = false := by rw [decide_eq_false_iff_not]; omega
  have tl2 : decide (1500 < l.length) = false := by rw [decide_eq_false_iff_not]; omega
  obtain ⟨s1, n1, n2⟩ := fewF_get HF1.out
  obtain ⟨s2, n3, n4⟩ := fewF_get HF2.out
  simp only at s1 n1 n2 s2 n3 n4
  have HSA := Lib.hid s1
  have HSB := Lib.hid s2
  clear s1 s2
  have hl2 : l.length ≤ 4294967296 := by omega
  have hsn : Short [] := fun r hr => by simp at hr
  have hs1z : (⟨l.toArray⟩ : ByteArray).size = l.length := size_bytes l
  obtain ⟨va, ca, rfl, -⟩ := hv1.open'
  obtain ⟨vb, cb, rfl, -⟩ := hv2.open'
  have b0 := bl_newZ w (.cells #[.int .i64 k1, .int .i64 q1, .bool on1, .string ⟨c1.toArray⟩, .int .i64 sh1, .int .i64 pr1, .int .i64 si1, .string ⟨st1.toArray⟩, .int .u64 sum1, .slice va tt1.length ca] 27)
  have b1 := bl_newZ (w.alloc (.cells #[.int .i64 k1, .int .i64 q1, .bool on1, .string ⟨c1.toArray⟩, .int .i64 sh1, .int .i64 pr1, .int .i64 si1, .string ⟨st1.toArray⟩, .int .u64 sum1, .slice va tt1.length ca] 27)) (.cells #[.int .i64 k2, .int .i64 q2, .bool on2, .string ⟨c2.toArray⟩, .int .i64 sh2, .int .i64 pr2, .int .i64 si2, .string ⟨st2.toArray⟩, .int .u64 sum2, .slice vb tt2.length cb] 27)
  have HB := Lib.hid (below2Z b0 b1)
  have VA := Lib.hid ((hv1.later b0).later b1)
  have VB := Lib.hid ((hv2.later b0).later b1)
  have FA := newQ w (.cells #[.int .i64 k1, .int .i64 q1, .bool on1, .string ⟨c1.toArray⟩, .int .i64 sh1, .int .i64 pr1, .int .i64 si1, .string ⟨st1.toArray⟩, .int .u64 sum1, .slice va tt1.length ca] 27)
  replace FA := upQ FA b1
  replace FA := Lib.hid FA
  have FB := newQ (w.alloc (.cells #[.int .i64 k1, .int .i64 q1, .bool on1, .string ⟨c1.toArray⟩, .int .i64 sh1, .int .i64 pr1, .int .i64 si1, .string ⟨st1.toArray⟩, .int .u64 sum1, .slice va tt1.length ca] 27)) (.cells #[.int .i64 k2, .int .i64 q2, .bool on2, .string ⟨c2.toArray⟩, .int .i64 sh2, .int .i64 pr2, .int .i64 si2, .string ⟨st2.toArray⟩, .int .u64 sum2, .slice vb tt2.length cb] 27)
  rw [World.size_alloc] at FB
  replace FB := Lib.hid FB
  clear b0 b1
  clear hv1 hv2
  go_enter Try.func5, Try.ntmps5
  obtain ⟨⟨FAc0, FAc1, FAc2, FAc3, FAc4, FAc5, FAc6, FAc7, FAc8, FAc9⟩, ⟨FAf0, FAf1, FAf2, FAf3, FAf4, FAf5, FAf6, FAf7, FAf8, FAf9⟩⟩ := blk10 FA.out
  go_wp2_with fail
  clear FAc0 FAc1 FAc2 FAc3 FAc4 FAc5 FAc6 FAc7 FAc8 FAc9 FAf0 FAf1 FAf2 FAf3 FAf4 FAf5 FAf6 FAf7 FAf8 FAf9
  refine (fewf_eq VA.out k1 q1 on1 c1 sh1 pr1 si1 st1 sum1 hc1 hs1 HF1).mono ?_
  rintro e w3 ⟨rfl, b3⟩
  replace FA := Lib.hid (upQ FA.out b3)
  replace FB := Lib.hid (upQ FB.out b3)
  replace VA := Lib.hid (VA.out.later b3)
  replace VB := Lib.hid (VB.out.later b3)
  replace HB := Lib.hid (below2Z HB.out b3)
  clear b3
  obtain ⟨⟨FBc0, FBc1, FBc2, FBc3, FBc4, FBc5, FBc6, FBc7, FBc8, FBc9⟩, ⟨FBf0, FBf1, FBf2, FBf3, FBf4, FBf5, FBf6, FBf7, FBf8, FBf9⟩⟩ := blk10 FB.out
  go_wp2_with fail
  clear FBc0 FBc1 FBc2 FBc3 FBc4 FBc5 FBc6 FBc7 FBc8 FBc9 FBf0 FBf1 FBf2 FBf3 FBf4 FBf5 FBf6 FBf7 FBf8 FBf9
  refine (fewf_eq VB.out k2 q2 on2 c2 sh2 pr2 si2 st2 sum2 hc2 hs2 HF2).mono ?_
  rintro e w4 ⟨rfl, b4⟩
  replace FA := Lib.hid (upQ FA.out b4)
  replace FB := Lib.hid (upQ FB.out b4)
  replace VA := Lib.hid (VA.out.later b4)
  replace VB := Lib.hid (VB.out.later b4)
  replace HB := Lib.hid (below2Z HB.out b4)
  clear b4
  obtain ⟨⟨FAc0, FAc1, FAc2, FAc3, FAc4, FAc5, FAc6, FAc7, FAc8, FAc9⟩, ⟨FAf0, FAf1, FAf2, FAf3, FAf4, FAf5, FAf6, FAf7, FAf8, FAf9⟩⟩ := blk10 FA.out
  go_wp2_with fail
  clear FAc0 FAc1 FAc2 FAc3 FAc4 FAc5 FAc6 FAc7 FAc8 FAc9 FAf0 FAf1 FAf2 FAf3 FAf4 FAf5 FAf6 FAf7 FAf8 FAf9
  refine (frenc_any VA.out HSA.out k1 q1 on1 c1 sh1 pr1 si1 st1 sum1 hu1 n1 n2 HEA).mono ?_
  rintro e w5 ⟨rfl, b5⟩
  replace FA := Lib.hid (upQ FA.out b5)
  replace FB := Lib.hid (upQ FB.out b5)
  replace VA := Lib.hid (VA.out.later b5)
  replace VB := Lib.hid (VB.out.later b5)
  replace HB := Lib.hid (below2Z HB.out b5)
  clear b5
  obtain ⟨⟨FAc0, FAc1, FAc2, FAc3, FAc4, FAc5, FAc6, FAc7, FAc8, FAc9⟩, ⟨FAf0, FAf1, FAf2, FAf3, FAf4, FAf5, FAf6, FAf7, FAf8, FAf9⟩⟩ := blk10 FA.out
  go_wp2_with fail
  clear FAc0 FAc1 FAc2 FAc3 FAc4 FAc5 FAc6 FAc7 FAc8 FAc9 FAf0 FAf1 FAf2 FAf3 FAf4 FAf5 FAf6 FAf7 FAf8 FAf9
  refine (frmay_eqF VA.out HSA.out n1 n2 HMA).mono ?_
  rintro e w6 ⟨rfl, b6⟩
  replace FA := Lib.hid (upQ FA.out b6)
  replace FB := Lib.hid (upQ FB.out b6)
  replace VA := Lib.hid (VA.out.later b6)
  replace VB := Lib.hid (VB.out.later b6)
  replace HB := Lib.hid (below2Z HB.out b6)
  clear b6
  go_wp2_with fail
  refine (frdec_any [] (by decide) (Lib.hid fwb_nil) _).mono ?_
  rintro e w7 ⟨v7, rfl, hov7, b7⟩
  replace FA := Lib.hid (upQ FA.out b7)
  replace FB := Lib.hid (upQ FB.out b7)
  replace VA := Lib.hid (VA.out.later b7)
  replace VB := Lib.hid (VB.out.later b7)
  replace HB := Lib.hid (below2Z HB.out b7)
  obtain ⟨va7, vc7, rfl, -⟩ := Tab.open' (OwnR.tab hov7)
  have VG := Lib.hid (OwnR.tab hov7)
  clear hov7
  clear b7
  obtain ⟨⟨FBc0, FBc1, FBc2, FBc3, FBc4, FBc5, FBc6, FBc7, FBc8, FBc9⟩, ⟨FBf0, FBf1, FBf2, FBf3, FBf4, FBf5, FBf6, FBf7, FBf8, FBf9⟩⟩ := blk10 FB.out
  have hBl := (Array.getElem?_eq_some_iff.1 FB.out).1
  go_wp2_with fail
  clear FBc0 FBc1 FBc2 FBc3 FBc4 FBc5 FBc6 FBc7 FBc8 FBc9 FBf0 FBf1 FBf2 FBf3 FBf4 FBf5 FBf6 FBf7 FBf8 FBf9 hBl
  have b8 := bl_newZ w7 (.cells #[.int .i64 0, .int .i64 0, .bool false, .string ⟨#[]⟩, .int .i64 0, .int .i64 0, .int .i64 0, .string ⟨#[]⟩, .int .u64 0, .slice va7 0 vc7] 27)
  have G := newQ w7 (.cells #[.int .i64 0, .int .i64 0, .bool false, .string ⟨#[]⟩, .int .i64 0, .int .i64 0, .int .i64 0, .string ⟨#[]⟩, .int .u64 0, .slice va7 0 vc7] 27)
  have hG : w.heap.size ≤ w7.heap.size := HB.out.size
  replace FA := Lib.hid (upQ FA.out b8)
  replace FB := Lib.hid (upQ FB.out b8)
  replace VA := Lib.hid (VA.out.later b8)
  replace VB := Lib.hid (VB.out.later b8)
  replace VG := Lib.hid (Tab.later VG.out b8)
  replace HB := Lib.hid (below2Z HB.out b8)
  clear b8
  replace G := Lib.hid G
  generalize w7.alloc (.cells #[.int .i64 0, .int .i64 0, .bool false, .string ⟨#[]⟩, .int .i64 0, .int .i64 0, .int .i64 0, .string ⟨#[]⟩, .int .u64 0, .slice va7 0 vc7] 27) = w9 at FA FB G VA VB VG HB ⊢
  generalize w7.heap.size = BG at G hG ⊢
  clear G
  clear hG
  refine (frenc_any VB.out HSB.out k2 q2 on2 c2 sh2 pr2 si2 st2 sum2 hu2 n3 n4 HEB).mono ?_
  rintro e w10 ⟨rfl, b10⟩
  replace FA := Lib.hid (upQ FA.out b10)
  replace FB := Lib.hid (upQ FB.out b10)
  replace VA := Lib.hid (VA.out.later b10)
  replace VB := Lib.hid (VB.out.later b10)
  replace VG := Lib.hid (Tab.later VG.out b10)
  replace HB := Lib.hid (below2Z HB.out b10)
  clear b10
  go_wp2_with fail
  refine (frdec_any l hl2 HDS _).mono ?_
  rintro e w11 ⟨v11, rfl, hov11, b11⟩
  replace FA := Lib.hid (upQ FA.out b11)
  replace FB := Lib.hid (upQ FB.out b11)
  replace VA := Lib.hid (VA.out.later b11)
  replace VB := Lib.hid (VB.out.later b11)
  replace VG := Lib.hid (Tab.later VG.out b11)
  replace HB := Lib.hid (below2Z HB.out b11)
  obtain ⟨va11, vc11, rfl, -⟩ := Tab.open' (OwnR.tab hov11)
  have VH := Lib.hid (OwnR.tab hov11)
  clear hov11
  clear b11
  go_wp2_with fail
  have b12 := bl_newZ w11 (.cells #[.int .i64 k3, .int .i64 q3, .bool on3, .string ⟨c3.toArray⟩, .int .i64 sh3, .int .i64 pr3, .int .i64 si3, .string ⟨st3.toArray⟩, .int .u64 sum3, .slice va11 tt3.length vc11] 27)
  have H := newQ w11 (.cells #[.int .i64 k3, .int .i64 q3, .bool on3, .string ⟨c3.toArray⟩, .int .i64 sh3, .int .i64 pr3, .int .i64 si3, .string ⟨st3.toArray⟩, .int .u64 sum3, .slice va11 tt3.length vc11] 27)
  have hH : w.heap.size ≤ w11.heap.size := HB.out.size
  replace FA := Lib.hid (upQ FA.out b12)
  replace FB := Lib.hid (upQ FB.out b12)
  replace VA := Lib.hid (VA.out.later b12)
  replace VB := Lib.hid (VB.out.later b12)
  replace VG := Lib.hid (Tab.later VG.out b12)
  replace VH := Lib.hid (Tab.later VH.out b12)
  replace HB := Lib.hid (below2Z HB.out b12)
  clear b12
  replace H := Lib.hid H
  generalize w11.alloc (.cells #[.int .i64 k3, .int .i64 q3, .bool on3, .string ⟨c3.toArray⟩, .int .i64 sh3, .int .i64 pr3, .int .i64 si3, .string ⟨st3.toArray⟩, .int .u64 sum3, .slice va11 tt3.length vc11] 27) = w13 at FA FB H VA VB VG VH HB ⊢
  generalize w11.heap.size = BH at H hH ⊢
  refine (frenc_any VH.out HSH.out k3 q3 on3 c3 sh3 pr3 si3 st3 sum3 hu3 m1 m2 HEH).mono ?_
  rintro e w14 ⟨rfl, b14⟩
  replace FA := Lib.hid (upQ FA.out b14)
  replace FB := Lib.hid (upQ FB.out b14)
  replace H := Lib.hid (upQ H.out b14)
  replace VA := Lib.hid (VA.out.later b14)
  replace VB := Lib.hid (VB.out.later b14)
  replace VG := Lib.hid (Tab.later VG.out b14)
  replace VH := Lib.hid (Tab.later VH.out b14)
  replace HB := Lib.hid (below2Z HB.out b14)
  clear b14
  go_wp2_with fail
  refine (live6 _).mono ?_
  rintro e w15 ⟨rfl, b15⟩
  replace FA := Lib.hid (upQ FA.out b15)
  replace FB := Lib.hid (upQ FB.out b15)
  replace H := Lib.hid (upQ H.out b15)
  replace VA := Lib.hid (VA.out.later b15)
  replace VB := Lib.hid (VB.out.later b15)
  replace VG := Lib.hid (Tab.later VG.out b15)
  replace VH := Lib.hid (Tab.later VH.out b15)
  replace HB := Lib.hid (below2Z HB.out b15)
  clear b15
  go_wp2_with fail
  go_ret
  exact ⟨rfl, HB.out⟩

set_option maxHeartbeats 3200000 in
set_option maxRecDepth 100000 in
theorem fwb_nne {w : World} {v1 v2 : Value} {k1 q1 sh1 pr1 si1 : Int} {on1 : Bool} {c1 st1 : List UInt8} {sum1 : Nat} {tt1 : List Row} {k2 q2 sh2 pr2 si2 : Int} {on2 : Bool} {c2 st2 : List UInt8} {sum2 : Nat} {tt2 : List Row} (hv1 : Tab w v1 tt1) (hv2 : Tab w v2 tt2) (l : List UInt8) (hc1 : c1.length ≤ maxLen) (hs1 : st1.length ≤ maxLen) (hc2 : c2.length ≤ maxLen) (hs2 : st2.length ≤ maxLen) (HF1 : Hid (fewF ⟨k1, q1, on1, c1, ⟨sh1, pr1, si1, st1⟩, sum1, tt1⟩ = true)) (HF2 : Hid (fewF ⟨k2, q2, on2, c2, ⟨sh2, pr2, si2, st2⟩, sum2, tt2⟩ = true)) (hl : l.length ≤ 1500) (hu1 : sum1 < 18446744073709551616) (hu2 : sum2 < 18446744073709551616) (HMA : Hid (frMay ⟨k1, q1, on1, c1, ⟨sh1, pr1, si1, st1⟩, sum1, tt1⟩ = false)) (HEA : Hid (frEnc ⟨k1, q1, on1, c1, ⟨sh1, pr1, si1, st1⟩, sum1, tt1⟩ = ([], 1))) (HEB : Hid (frEnc ⟨k2, q2, on2, c2, ⟨sh2, pr2, si2, st2⟩, sum2, tt2⟩ = ([], 1))) {e4 : Nat} (HDS : Hid (frDec l = (⟨0, 0, false, [], ⟨0, 0, 0, []⟩, 0, []⟩, e4))) (he4 : e4 ≠ 0) :
    Calls Try.prog 5 #[.agg #[.int .i64 k1, .int .i64 q1, .bool on1, .string ⟨c1.toArray⟩, .int .i64 sh1, .int .i64 pr1, .int .i64 si1, .string ⟨st1.toArray⟩, .int .u64 sum1, v1], .agg #[.int .i64 k2, .int .i64 q2, .bool on2, .string ⟨c2.toArray⟩, .int .i64 sh2, .int .i64 pr2, .int .i64 si2, .string ⟨st2.toArray⟩, .int .u64 sum2, v2], .string ⟨l.toArray⟩] w fun e w' => e = .returned (.bool true) ∧ Below w.heap.size w w' := by
  have tl : decide (1500 < (l.length : Int)) = false := by rw [decide_eq_false_iff_not]; omega
  have tl2 : decide (1500 < l.length) = false := by rw [decide_eq_false_iff_not]; omega
  obtain ⟨s1, n1, n2⟩ := fewF_get HF1.out
  obtain ⟨s2, n3, n4⟩ := fewF_get HF2.out
  simp only at s1 n1 n2 s2 n3 n4
  have HSA := Lib.hid s1
  have HSB := Lib.hid s2
  clear s1 s2
  have hl2 : l.length ≤ 4294967296 := by omega
  have hsn : Short [] := fun r hr => by simp at hr
  have t4 : ((e4 : Int) != 0) = true := by simp; omega
  clear he4
  have hs1z : (⟨l.toArray⟩ : ByteArray).size = l.length := size_bytes l
  obtain ⟨va, ca, rfl, -⟩ := hv1.open'
  obtain ⟨vb, cb, rfl, -⟩ := hv2.open'
  have b0 := bl_newZ w (.cells #[.int .i64 k1, .int .i64 q1, .bool on1, .string ⟨c1.toArray⟩, .int .i64 sh1, .int .i64 pr1, .int .i64 si1, .string ⟨st1.toArray⟩, .int .u64 sum1, .slice va tt1.length ca] 27)
  have b1 := bl_newZ (w.alloc (.cells #[.int .i64 k1, .int .i64 q1, .bool on1, .string ⟨c1.toArray⟩, .int .i64 sh1, .int .i64 pr1, .int .i64 si1, .string ⟨st1.toArray⟩, .int .u64 sum1, .slice va tt1.length ca] 27)) (.cells #[.int .i64 k2, .int .i64 q2, .bool on2, .string ⟨c2.toArray⟩, .int .i64 sh2, .int .i64 pr2, .int .i64 si2, .string ⟨st2.toArray⟩, .int .u64 sum2, .slice vb tt2.length cb] 27)
  have HB := Lib.hid (below2Z b0 b1)
  have VA := Lib.hid ((hv1.later b0).later b1)
  have VB := Lib.hid ((hv2.later b0).later b1)
  have FA := newQ w (.cells #[.int .i64 k1, .int .i64 q1, .bool on1, .string ⟨c1.toArray⟩, .int .i64 sh1, .int .i64 pr1, .int .i64 si1, .string ⟨st1.toArray⟩, .int .u64 sum1, .slice va tt1.length ca] 27)
  replace FA := upQ FA b1
  replace FA := Lib.hid FA
  have FB := newQ (w.alloc (.cells #[.int .i64 k1, .int .i64 q1, .bool on1, .string ⟨c1.toArray⟩, .int .i64 sh1, .int .i64 pr1, .int .i64 si1, .string ⟨st1.toArray⟩, .int .u64 sum1, .slice va tt1.length ca] 27)) (.cells #[.int .i64 k2, .int .i64 q2, .bool on2, .string ⟨c2.toArray⟩, .int .i64 sh2, .int .i64 pr2, .int .i64 si2, .string ⟨st2.toArray⟩, .int .u64 sum2, .slice vb tt2.length cb] 27)
  rw [World.size_alloc] at FB
  replace FB := Lib.hid FB
  clear b0 b1
  clear hv1 hv2
  go_enter Try.func5, Try.ntmps5
  obtain ⟨⟨FAc0, FAc1, FAc2, FAc3, FAc4, FAc5, FAc6, FAc7, FAc8, FAc9⟩, ⟨FAf0, FAf1, FAf2, FAf3, FAf4, FAf5, FAf6, FAf7, FAf8, FAf9⟩⟩ := blk10 FA.out
  go_wp2_with fail
  clear FAc0 FAc1 FAc2 FAc3 FAc4 FAc5 FAc6 FAc7 FAc8 FAc9 FAf0 FAf1 FAf2 FAf3 FAf4 FAf5 FAf6 FAf7 FAf8 FAf9
  refine (fewf_eq VA.out k1 q1 on1 c1 sh1 pr1 si1 st1 sum1 hc1 hs1 HF1).mono ?_
  rintro e w3 ⟨rfl, b3⟩
  replace FA := Lib.hid (upQ FA.out b3)
  replace FB := Lib.hid (upQ FB.out b3)
  replace VA := Lib.hid (VA.out.later b3)
  replace VB := Lib.hid (VB.out.later b3)
  replace HB := Lib.hid (below2Z HB.out b3)
  clear b3
  obtain ⟨⟨FBc0, FBc1, FBc2, FBc3, FBc4, FBc5, FBc6, FBc7, FBc8, FBc9⟩, ⟨FBf0, FBf1, FBf2, FBf3, FBf4, FBf5, FBf6, FBf7, FBf8, FBf9⟩⟩ := blk10 FB.out
  go_wp2_with fail
  clear FBc0 FBc1 FBc2 FBc3 FBc4 FBc5 FBc6 FBc7 FBc8 FBc9 FBf0 FBf1 FBf2 FBf3 FBf4 FBf5 FBf6 FBf7 FBf8 FBf9
  refine (fewf_eq VB.out k2 q2 on2 c2 sh2 pr2 si2 st2 sum2 hc2 hs2 HF2).mono ?_
  rintro e w4 ⟨rfl, b4⟩
  replace FA := Lib.hid (upQ FA.out b4)
  replace FB := Lib.hid (upQ FB.out b4)
  replace VA := Lib.hid (VA.out.later b4)
  replace VB := Lib.hid (VB.out.later b4)
  replace HB := Lib.hid (below2Z HB.out b4)
  clear b4
  obtain ⟨⟨FAc0, FAc1, FAc2, FAc3, FAc4, FAc5, FAc6, FAc7, FAc8, FAc9⟩, ⟨FAf0, FAf1, FAf2, FAf3, FAf4, FAf5, FAf6, FAf7, FAf8, FAf9⟩⟩ := blk10 FA.out
  go_wp2_with fail
  clear FAc0 FAc1 FAc2 FAc3 FAc4 FAc5 FAc6 FAc7 FAc8 FAc9 FAf0 FAf1 FAf2 FAf3 FAf4 FAf5 FAf6 FAf7 FAf8 FAf9
  refine (frenc_any VA.out HSA.out k1 q1 on1 c1 sh1 pr1 si1 st1 sum1 hu1 n1 n2 HEA).mono ?_
  rintro e w5 ⟨rfl, b5⟩
  replace FA := Lib.hid (upQ FA.out b5)
  replace FB := Lib.hid (upQ FB.out b5)
  replace VA := Lib.hid (VA.out.later b5)
  replace VB := Lib.hid (VB.out.later b5)
  replace HB := Lib.hid (below2Z HB.out b5)
  clear b5
  obtain ⟨⟨FAc0, FAc1, FAc2, FAc3, FAc4, FAc5, FAc6, FAc7, FAc8, FAc9⟩, ⟨FAf0, FAf1, FAf2, FAf3, FAf4, FAf5, FAf6, FAf7, FAf8, FAf9⟩⟩ := blk10 FA.out
  go_wp2_with fail
  clear FAc0 FAc1 FAc2 FAc3 FAc4 FAc5 FAc6 FAc7 FAc8 FAc9 FAf0 FAf1 FAf2 FAf3 FAf4 FAf5 FAf6 FAf7 FAf8 FAf9
  refine (frmay_eqF VA.out HSA.out n1 n2 HMA).mono ?_
  rintro e w6 ⟨rfl, b6⟩
  replace FA := Lib.hid (upQ FA.out b6)
  replace FB := Lib.hid (upQ FB.out b6)
  replace VA := Lib.hid (VA.out.later b6)
  replace VB := Lib.hid (VB.out.later b6)
  replace HB := Lib.hid (below2Z HB.out b6)
  clear b6
  go_wp2_with fail
  refine (frdec_any [] (by decide) (Lib.hid fwb_nil) _).mono ?_
  rintro e w7 ⟨v7, rfl, hov7, b7⟩
  replace FA := Lib.hid (upQ FA.out b7)
  replace FB := Lib.hid (upQ FB.out b7)
  replace VA := Lib.hid (VA.out.later b7)
  replace VB := Lib.hid (VB.out.later b7)
  replace HB := Lib.hid (below2Z HB.out b7)
  obtain ⟨va7, vc7, rfl, -⟩ := Tab.open' (OwnR.tab hov7)
  have VG := Lib.hid (OwnR.tab hov7)
  clear hov7
  clear b7
  obtain ⟨⟨FBc0, FBc1, FBc2, FBc3, FBc4, FBc5, FBc6, FBc7, FBc8, FBc9⟩, ⟨FBf0, FBf1, FBf2, FBf3, FBf4, FBf5, FBf6, FBf7, FBf8, FBf9⟩⟩ := blk10 FB.out
  have hBl := (Array.getElem?_eq_some_iff.1 FB.out).1
  go_wp2_with fail
  clear FBc0 FBc1 FBc2 FBc3 FBc4 FBc5 FBc6 FBc7 FBc8 FBc9 FBf0 FBf1 FBf2 FBf3 FBf4 FBf5 FBf6 FBf7 FBf8 FBf9 hBl
  have b8 := bl_newZ w7 (.cells #[.int .i64 0, .int .i64 0, .bool false, .string ⟨#[]⟩, .int .i64 0, .int .i64 0, .int .i64 0, .string ⟨#[]⟩, .int .u64 0, .slice va7 0 vc7] 27)
  have G := newQ w7 (.cells #[.int .i64 0, .int .i64 0, .bool false, .string ⟨#[]⟩, .int .i64 0, .int .i64 0, .int .i64 0, .string ⟨#[]⟩, .int .u64 0, .slice va7 0 vc7] 27)
  have hG : w.heap.size ≤ w7.heap.size := HB.out.size
  replace FA := Lib.hid (upQ FA.out b8)
  replace FB := Lib.hid (upQ FB.out b8)
  replace VA := Lib.hid (VA.out.later b8)
  replace VB := Lib.hid (VB.out.later b8)
  replace VG := Lib.hid (Tab.later VG.out b8)
  replace HB := Lib.hid (below2Z HB.out b8)
  clear b8
  replace G := Lib.hid G
  generalize w7.alloc (.cells #[.int .i64 0, .int .i64 0, .bool false, .string ⟨#[]⟩, .int .i64 0, .int .i64 0, .int .i64 0, .string ⟨#[]⟩, .int .u64 0, .slice va7 0 vc7] 27) = w9 at FA FB G VA VB VG HB ⊢
  generalize w7.heap.size = BG at G hG ⊢
  clear G
  clear hG
  refine (frenc_any VB.out HSB.out k2 q2 on2 c2 sh2 pr2 si2 st2 sum2 hu2 n3 n4 HEB).mono ?_
  rintro e w10 ⟨rfl, b10⟩
  replace FA := Lib.hid (upQ FA.out b10)
  replace FB := Lib.hid (upQ FB.out b10)
  replace VA := Lib.hid (VA.out.later b10)
  replace VB := Lib.hid (VB.out.later b10)
  replace VG := Lib.hid (Tab.later VG.out b10)
  replace HB := Lib.hid (below2Z HB.out b10)
  clear b10
  go_wp2_with fail
  refine (frdec_any l hl2 HDS _).mono ?_
  rintro e w11 ⟨v11, rfl, hov11, b11⟩
  replace FA := Lib.hid (upQ FA.out b11)
  replace FB := Lib.hid (upQ FB.out b11)
  replace VA := Lib.hid (VA.out.later b11)
  replace VB := Lib.hid (VB.out.later b11)
  replace VG := Lib.hid (Tab.later VG.out b11)
  replace HB := Lib.hid (below2Z HB.out b11)
  obtain ⟨va11, vc11, rfl, -⟩ := Tab.open' (OwnR.tab hov11)
  have VH := Lib.hid (OwnR.tab hov11)
  clear hov11
  clear b11
  go_wp2_with fail
  have b12 := bl_newZ w11 (.cells #[.int .i64 0, .int .i64 0, .bool false, .string ⟨#[]⟩, .int .i64 0, .int .i64 0, .int .i64 0, .string ⟨#[]⟩, .int .u64 0, .slice va11 0 vc11] 27)
  have H := newQ w11 (.cells #[.int .i64 0, .int .i64 0, .bool false, .string ⟨#[]⟩, .int .i64 0, .int .i64 0, .int .i64 0, .string ⟨#[]⟩, .int .u64 0, .slice va11 0 vc11] 27)
  have hH : w.heap.size ≤ w11.heap.size := HB.out.size
  replace FA := Lib.hid (upQ FA.out b12)
  replace FB := Lib.hid (upQ FB.out b12)
  replace VA := Lib.hid (VA.out.later b12)
  replace VB := Lib.hid (VB.out.later b12)
  replace VG := Lib.hid (Tab.later VG.out b12)
  replace VH := Lib.hid (Tab.later VH.out b12)
  replace HB := Lib.hid (below2Z HB.out b12)
  clear b12
  replace H := Lib.hid H
  generalize w11.alloc (.cells #[.int .i64 0, .int .i64 0, .bool false, .string ⟨#[]⟩, .int .i64 0, .int .i64 0, .int .i64 0, .string ⟨#[]⟩, .int .u64 0, .slice va11 0 vc11] 27) = w13 at FA FB H VA VB VG VH HB ⊢
  generalize w11.heap.size = BH at H hH ⊢
  refine (frenc_any VH.out hsn 0 0 false [] 0 0 0 [] 0 (by decide) (by decide) (by decide) (Lib.hid fwb_zero)).mono ?_
  rintro e w14 ⟨rfl, b14⟩
  replace FA := Lib.hid (upQ FA.out b14)
  replace FB := Lib.hid (upQ FB.out b14)
  replace H := Lib.hid (upQ H.out b14)
  replace VA := Lib.hid (VA.out.later b14)
  replace VB := Lib.hid (VB.out.later b14)
  replace VG := Lib.hid (Tab.later VG.out b14)
  replace VH := Lib.hid (Tab.later VH.out b14)
  replace HB := Lib.hid (below2Z HB.out b14)
  clear b14
  obtain ⟨⟨Hc0, Hc1, Hc2, Hc3, Hc4, Hc5, Hc6, Hc7, Hc8, Hc9⟩, ⟨Hf0, Hf1, Hf2, Hf3, Hf4, Hf5, Hf6, Hf7, Hf8, Hf9⟩⟩ := blk10 H.out
  go_wp2_with fail
  clear Hc0 Hc1 Hc2 Hc3 Hc4 Hc5 Hc6 Hc7 Hc8 Hc9 Hf0 Hf1 Hf2 Hf3 Hf4 Hf5 Hf6 Hf7 Hf8 Hf9
  refine (frsame_eqF VH.out (OwnR.tab (ownR_nil _ 0)) (Lib.hid (frSame_iff.2 rfl))).mono ?_
  rintro e w15 ⟨rfl, b15⟩
  replace FA := Lib.hid (upQ FA.out b15)
  replace FB := Lib.hid (upQ FB.out b15)
  replace H := Lib.hid (upQ H.out b15)
  replace VA := Lib.hid (VA.out.later b15)
  replace VB := Lib.hid (VB.out.later b15)
  replace VG := Lib.hid (Tab.later VG.out b15)
  replace VH := Lib.hid (Tab.later VH.out b15)
  replace HB := Lib.hid (below2Z HB.out b15)
  clear b15
  go_wp2_with fail
  refine (live6 _).mono ?_
  rintro e w16 ⟨rfl, b16⟩
  replace FA := Lib.hid (upQ FA.out b16)
  replace FB := Lib.hid (upQ FB.out b16)
  replace H := Lib.hid (upQ H.out b16)
  replace VA := Lib.hid (VA.out.later b16)
  replace VB := Lib.hid (VB.out.later b16)
  replace VG := Lib.hid (Tab.later VG.out b16)
  replace VH := Lib.hid (Tab.later VH.out b16)
  replace HB := Lib.hid (below2Z HB.out b16)
  clear b16
  go_wp2_with fail
  go_ret
  exact ⟨rfl, HB.out⟩

theorem enc_may {f : Frm} (h : frMay f = true) : frEnc f = (cseal (frPlain f), 0) := by unfold frEnc; rw [if_pos h]
theorem enc_not {f : Frm} (h : frMay f = false) : frEnc f = ([], 1) := by unfold frEnc; rw [if_neg (by rw [h]; decide)]

theorem walkFrameBack {w : World} {v1 v2 : Value} {k1 q1 sh1 pr1 si1 : Int} {on1 : Bool} {c1 st1 : List UInt8} {sum1 : Nat} {tt1 : List Row} {k2 q2 sh2 pr2 si2 : Int} {on2 : Bool} {c2 st2 : List UInt8} {sum2 : Nat} {tt2 : List Row} (hv1 : Tab w v1 tt1) (hc1 : c1.length ≤ maxLen) (hs1 : st1.length ≤ maxLen) (hu1 : sum1 < 18446744073709551616) (hv2 : Tab w v2 tt2) (hc2 : c2.length ≤ maxLen) (hs2 : st2.length ≤ maxLen) (hu2 : sum2 < 18446744073709551616) (l : List UInt8) (_ : l.length ≤ maxLen) :
    Calls Try.prog 5 #[.agg #[.int .i64 k1, .int .i64 q1, .bool on1, .string ⟨c1.toArray⟩, .int .i64 sh1, .int .i64 pr1, .int .i64 si1, .string ⟨st1.toArray⟩, .int .u64 sum1, v1], .agg #[.int .i64 k2, .int .i64 q2, .bool on2, .string ⟨c2.toArray⟩, .int .i64 sh2, .int .i64 pr2, .int .i64 si2, .string ⟨st2.toArray⟩, .int .u64 sum2, v2], .string ⟨l.toArray⟩] w fun e w' => e = .returned (.bool true) ∧ Below w.heap.size w w' := by
  cases h1 : fewF ⟨k1, q1, on1, c1, ⟨sh1, pr1, si1, st1⟩, sum1, tt1⟩ with
  | false => exact fwb_1 hv1 hv2 l hc1 hs1 (Lib.hid h1)
  | true =>
  cases h2 : fewF ⟨k2, q2, on2, c2, ⟨sh2, pr2, si2, st2⟩, sum2, tt2⟩ with
  | false => exact fwb_2 hv1 hv2 l hc1 hs1 hc2 hs2 (Lib.hid h1) (Lib.hid h2)
  | true =>
  by_cases hlg : 1500 < l.length
  · exact fwb_3 hv1 hv2 l hc1 hs1 hc2 hs2 (Lib.hid h1) (Lib.hid h2) hlg
  have hl : l.length ≤ 1500 := by omega
  obtain ⟨f3, e4, hd⟩ : ∃ f e, frDec l = (f, e) := ⟨_, _, rfl⟩
  by_cases he : e4 = 0
  · subst he
    have ho := fwb_ok hd (by omega)
    obtain ⟨k3, q3, on3, c3, ⟨sh3, pr3, si3, st3⟩, sum3, tt3⟩ := f3
    cases ma : frMay ⟨k1, q1, on1, c1, ⟨sh1, pr1, si1, st1⟩, sum1, tt1⟩ with
    | false =>
      cases mb : frMay ⟨k2, q2, on2, c2, ⟨sh2, pr2, si2, st2⟩, sum2, tt2⟩ with
      | false =>
        exact fwb_nno hv1 hv2 l hc1 hs1 hc2 hs2 (Lib.hid h1) (Lib.hid h2) hl hu1 hu2 (Lib.hid ma) (Lib.hid (enc_not ma)) (Lib.hid (enc_not mb)) (Lib.hid hd) (Lib.hid ho.1) (Lib.hid ho.2.t) ho.2.c ho.2.st ho.2.sum
      | true =>
        exact fwb_nyo hv1 hv2 l hc1 hs1 hc2 hs2 (Lib.hid h1) (Lib.hid h2) hl hu1 hu2 (Lib.hid ma) (Lib.hid (enc_not ma)) (Lib.hid (enc_may mb)) (Lib.hid hd) (Lib.hid ho.1) (Lib.hid ho.2.t) ho.2.c ho.2.st ho.2.sum
    | true =>
      have la1 : (cseal (frPlain ⟨k1, q1, on1, c1, ⟨sh1, pr1, si1, st1⟩, sum1, tt1⟩)).length ≤ 4294967296 := by rw [seal_lenL]; have := (frPlain_len ma).2; omega
      cases mb : frMay ⟨k2, q2, on2, c2, ⟨sh2, pr2, si2, st2⟩, sum2, tt2⟩ with
      | false =>
        exact fwb_yno hv1 hv2 l hc1 hs1 hc2 hs2 (Lib.hid h1) (Lib.hid h2) hl hu1 hu2 la1 (Lib.hid ma) (Lib.hid (enc_may ma)) (Lib.hid (frDec_plain ma hu1 rfl).1) (Lib.hid (enc_not mb)) (Lib.hid hd) (Lib.hid ho.1) (Lib.hid ho.2.t) ho.2.c ho.2.st ho.2.sum
      | true =>
        cases hq : frSame ⟨k1, q1, on1, c1, ⟨sh1, pr1, si1, st1⟩, sum1, tt1⟩ ⟨k2, q2, on2, c2, ⟨sh2, pr2, si2, st2⟩, sum2, tt2⟩ with
        | false =>
          exact fwb_yyfo hv1 hv2 l hc1 hs1 hc2 hs2 (Lib.hid h1) (Lib.hid h2) hl hu1 hu2 la1 (Lib.hid ma) (Lib.hid (enc_may ma)) (Lib.hid (frDec_plain ma hu1 rfl).1) (Lib.hid (enc_may mb)) (Lib.hid (by rw [fwb_inj ma mb hu1 hu2, hq])) (Lib.hid hq) (Lib.hid hd) (Lib.hid ho.1) (Lib.hid ho.2.t) ho.2.c ho.2.st ho.2.sum
        | true =>
          exact fwb_yyto hv1 hv2 l hc1 hs1 hc2 hs2 (Lib.hid h1) (Lib.hid h2) hl hu1 hu2 la1 (Lib.hid ma) (Lib.hid (enc_may ma)) (Lib.hid (frDec_plain ma hu1 rfl).1) (Lib.hid (enc_may mb)) (Lib.hid (by rw [fwb_inj ma mb hu1 hu2, hq])) (Lib.hid hq) (Lib.hid hd) (Lib.hid ho.1) (Lib.hid ho.2.t) ho.2.c ho.2.st ho.2.sum
  · obtain rfl := fwb_err hd he
    cases ma : frMay ⟨k1, q1, on1, c1, ⟨sh1, pr1, si1, st1⟩, sum1, tt1⟩ with
    | false =>
      cases mb : frMay ⟨k2, q2, on2, c2, ⟨sh2, pr2, si2, st2⟩, sum2, tt2⟩ with
      | false =>
        exact fwb_nne hv1 hv2 l hc1 hs1 hc2 hs2 (Lib.hid h1) (Lib.hid h2) hl hu1 hu2 (Lib.hid ma) (Lib.hid (enc_not ma)) (Lib.hid (enc_not mb)) (Lib.hid hd) he
      | true =>
        exact fwb_nye hv1 hv2 l hc1 hs1 hc2 hs2 (Lib.hid h1) (Lib.hid h2) hl hu1 hu2 (Lib.hid ma) (Lib.hid (enc_not ma)) (Lib.hid (enc_may mb)) (Lib.hid hd) he
    | true =>
      have la1 : (cseal (frPlain ⟨k1, q1, on1, c1, ⟨sh1, pr1, si1, st1⟩, sum1, tt1⟩)).length ≤ 4294967296 := by rw [seal_lenL]; have := (frPlain_len ma).2; omega
      cases mb : frMay ⟨k2, q2, on2, c2, ⟨sh2, pr2, si2, st2⟩, sum2, tt2⟩ with
      | false =>
        exact fwb_yne hv1 hv2 l hc1 hs1 hc2 hs2 (Lib.hid h1) (Lib.hid h2) hl hu1 hu2 la1 (Lib.hid ma) (Lib.hid (enc_may ma)) (Lib.hid (frDec_plain ma hu1 rfl).1) (Lib.hid (enc_not mb)) (Lib.hid hd) he
      | true =>
        cases hq : frSame ⟨k1, q1, on1, c1, ⟨sh1, pr1, si1, st1⟩, sum1, tt1⟩ ⟨k2, q2, on2, c2, ⟨sh2, pr2, si2, st2⟩, sum2, tt2⟩ with
        | false =>
          exact fwb_yyfe hv1 hv2 l hc1 hs1 hc2 hs2 (Lib.hid h1) (Lib.hid h2) hl hu1 hu2 la1 (Lib.hid ma) (Lib.hid (enc_may ma)) (Lib.hid (frDec_plain ma hu1 rfl).1) (Lib.hid (enc_may mb)) (Lib.hid (by rw [fwb_inj ma mb hu1 hu2, hq])) (Lib.hid hq) (Lib.hid hd) he
        | true =>
          exact fwb_yyte hv1 hv2 l hc1 hs1 hc2 hs2 (Lib.hid h1) (Lib.hid h2) hl hu1 hu2 la1 (Lib.hid ma) (Lib.hid (enc_may ma)) (Lib.hid (frDec_plain ma hu1 rfl).1) (Lib.hid (enc_may mb)) (Lib.hid (by rw [fwb_inj ma mb hu1 hu2, hq])) (Lib.hid hq) (Lib.hid hd) he

end Go.Proofs.Ytohfhphiofobcaa

end

section

/-
  THE FRAME OF THE PROOF OF FrameBack: for every input the law returns true, and each argument reads behind the call as it read before. No condition.
-/
namespace Go.Proofs.Ytohfhphiofobcaa.frameBack
open Go.ChangeShapes Go.WideShapes Go.ChangeAt Go.RowKit
open Go.ChangeMaps (open_string shut_string)
set_option linter.unusedVariables false

theorem own : ownKnob Try.prog.godebug = none := by kernel_rfl
theorem laidOut : laidOutB Try.prog = true := by kernel_rfl

set_option maxRecDepth 100000 in
theorem lifted (os : Os) (started : os.Started) (H : Type) (enc : TypeId × Value → H) :
    ReturnsInHanded {} Try.checked os 5 .any (Rows.frameBackSpec.pre6 enc Try.prog Try.f5 Rows.frameBackRow.domain false) (Rows.frameBackSpec.post enc Try.prog Try.f5 false true false false) := by
  refine returnsInHanded_of_change (C := Try.checked) own started (by kernel_rfl) Try.func5
    (ChangeSpec.witness6 (enc := enc) (C := Try.checked) false ⟨#[], #[.agg #[.int .i64 0, .int .i64 0, .bool false, .string ByteArray.empty, .int .i64 0, .int .i64 0, .int .i64 0, .string ByteArray.empty, .int .u64 0, .slice none 0 0], .agg #[.int .i64 0, .int .i64 0, .bool false, .string ByteArray.empty, .int .i64 0, .int .i64 0, .int .i64 0, .string ByteArray.empty, .int .u64 0, .slice none 0 0], .string ByteArray.empty], []⟩ 8 (by kernel_rfl) (by kernel_rfl) (by kernel_rfl) (by kernel_rfl)) ?_
  intro W base args ds gs before hval0 hW hcnd _
  have hval : ∀ (j : Nat) t v, Try.f5.params[j]? = some t → args[j]? = some v → Value.okWide Try.prog W .any base t v := hval0
  have hW' := hW
  obtain ⟨p, q, hA0, hV, rfl, hfz, hnd⟩ := hW
  have hA : DataW.TrodAll enc Try.prog W 0 (fun _ => true) true Try.f5.params.toList args.toList ds p := hA0
  rw [Try.params5] at hA hval
  obtain ⟨v0, vs0, d0, ds0, p0, q0, hargs, rfl, rfl, h0, r0⟩ := trodAll_cons hA
  obtain ⟨v1, vs1, d1, ds1, p1, q1, rfl, rfl, rfl, h1, r1⟩ := trodAll_cons r0
  obtain ⟨v2, vs2, d2, ds2, p2, q2, rfl, rfl, rfl, h2, r2⟩ := trodAll_cons r1
  obtain ⟨rfl, rfl, rfl⟩ := trodAll_nil r2
  obtain rfl : args = #[v0, v1, v2] := by cases args; simp_all
  obtain ⟨rfl, rfl⟩ := trodVars_none hV
  have k0 := h0
  have lt0 : ∀ x ∈ p0, x.block < W.heap.size := by obtain ⟨m, hm⟩ := k0; exact DataW.trod_lt m _ _ _ hm
  obtain ⟨f0, t0, rfl, c0, s0, u0, w0⟩ := open_frame (hval 0 27 v0 rfl rfl) h0
  have k1 := h1
  have lt1 : ∀ x ∈ p1, x.block < W.heap.size := by obtain ⟨m, hm⟩ := k1; exact DataW.trod_lt m _ _ _ hm
  obtain ⟨f1, t1, rfl, c1, s1, u1, w1⟩ := open_frame (hval 1 27 v1 rfl rfl) h1
  have k2 := h2
  have lt2 : ∀ x ∈ p2, x.block < W.heap.size := by obtain ⟨m, hm⟩ := k2; exact DataW.trod_lt m _ _ _ hm
  obtain ⟨s2, rfl, hd2, hp2, w2⟩ := open_string Try.underlying9 (hval 2 9 v2 rfl rfl) h2
  obtain ⟨a2, e2⟩ : ∃ l : List UInt8, s2 = ⟨l.toArray⟩ := ⟨s2.data.toList, by cases s2; simp⟩
  subst e2
  have w2 : a2.length ≤ maxLen := by rw [← size_bytes]; exact w2
  clear hA0 hval0
  refine (walkFrameBack (w := W) w0 c0 s0 u0 w1 c1 s1 u1 a2 w2).mono fun e W' ⟨he, bel⟩ => ?_
  subst he
  exact ⟨_, rfl, _, _, _, [], _, [], hW', trodAll_mk1 (shut_bool Try.underlying4 _), (trodAll_cons_mk (Below.trod laidOut (by kernel_rfl) (of_decide_eq_true (by kernel_rfl)) k0 bel lt0) (trodAll_cons_mk (Below.trod laidOut (by kernel_rfl) (of_decide_eq_true (by kernel_rfl)) k1 bel lt1) (trodAll_cons_mk (Below.trod laidOut (by kernel_rfl) (of_decide_eq_true (by kernel_rfl)) k2 bel lt2) trodAll_mk0))), rfl, bel.frame _, fun h => by cases h⟩

theorem over : Rows.frameBackRow.holds Try.pinned (OpenSpec.ofChange Rows.frameBackSpec) :=
  OpenClaim.holds_of_wide 5 Try.f5 rfl rfl rfl rfl rfl rfl rfl ⟨rfl, rfl, rfl, rfl, rfl⟩ rfl rfl rfl rfl rfl (by kernel_rfl) Try.func5 (by kernel_rfl)
    (of_decide_eq_true (by kernel_rfl)) (by unfold Func.isWrapper; first | (rw [if_pos (by decide +kernel)]; kernel_rfl) | (rw [if_neg (by decide +kernel)]; exact ⟨rfl, rfl⟩))
    (fun os started H enc _ => lifted os started H enc)

/-- THE STATEMENT. -/
theorem proved : Rows.FrameBackSaid := over
#print axioms proved
end Go.Proofs.Ytohfhphiofobcaa.frameBack

end
