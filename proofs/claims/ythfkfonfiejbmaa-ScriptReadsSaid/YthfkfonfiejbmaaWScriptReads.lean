/-
  THE WALK OF ScriptReads.
-/
import Derived.Test.YthfkfonfiejbmaaScrLive
namespace Go.Proofs.Ythfkfonfiejbmaa
open Go.RowKit

set_option maxHeartbeats 1600000 in
set_option maxRecDepth 100000 in
theorem scwread_no {w : World} (s : List UInt8) (hn : 1500 < s.length) :
    Calls Try.prog 3 #[.string ⟨s.toArray⟩] w fun e w' => e = .returned (.bool true) ∧ Below w.heap.size w w' := by
  have hs1 : (⟨s.toArray⟩ : ByteArray).size = s.length := size_bytes s
  have t1 : decide ((1500 : Int) < (s.length : Int)) = true := by rw [decide_eq_true_eq]; omega
  have t2 : decide (1500 < s.length) = true := by rw [decide_eq_true_eq]; omega
  go_enter Try.func3, Try.ntmps3
  go_wp2_with fail
  refine (live23 _).mono ?_
  rintro e w1 ⟨rfl, b1⟩
  go_wp2_with fail
  go_ret
  exact ⟨rfl, b1⟩

set_option maxHeartbeats 1600000 in
set_option maxRecDepth 100000 in
theorem scwread_yes {w : World} (s : List UInt8) (hn : s.length ≤ 1500) :
    Calls Try.prog 3 #[.string ⟨s.toArray⟩] w fun e w' => e = .returned (.bool true) ∧ Below w.heap.size w w' := by
  have hs1 : (⟨s.toArray⟩ : ByteArray).size = s.length := size_bytes s
  have t1 : decide ((1500 : Int) < (s.length : Int)) = false := by rw [decide_eq_false_iff_not]; omega
  have t2 : decide (1500 < s.length) = false := by rw [decide_eq_false_iff_not]; omega
  obtain ⟨⟨k1, u1, o1, id1, ⟨a1, b1, c1, st1⟩⟩, n1, hd1⟩ : ∃ e n, scDec s = (e, n) := ⟨_, _, rfl⟩
  obtain ⟨t, ht⟩ : ∃ t, cseal s = t := ⟨_, rfl⟩
  have hl1 : s.length ≤ 4294967296 := by omega
  have hl2 : t.length ≤ 4294967296 := by rw [← ht, seal_len]; omega
  have hl3 : s.length ≤ 1000000 := by omega
  obtain ⟨⟨k2, u2, o2, id2, ⟨a2, b2, c2, st2⟩⟩, n2, hd2⟩ : ∃ e n, scDec t = (e, n) := ⟨_, _, rfl⟩
  have HS := Lib.hid (rseal_any s hl1)
  rw [ht] at HS
  have HD1 := Lib.hid hd1
  have HD2 := Lib.hid hd2
  have heq1 := fun w => (ev_eql k1 k1 id1 id1 u1 u1 o1 o1 a1 b1 c1 a1 b1 c1 st1 st1 w).trans (by rw [evEq_self])
  have heq2 := fun w => (ev_eql k2 k2 id2 id2 u2 u2 o2 o2 a2 b2 c2 a2 b2 c2 st2 st2 w).trans (by rw [evEq_self])
  clear hd1 hd2 ht
  have HB := Lib.hid (Below.refl w.heap.size w)
  go_enter Try.func3, Try.ntmps3
  go_wp2_with fail
  refine (scdec_any s hl1 HD1 _).mono ?_
  rintro e w1 ⟨rfl, b1⟩
  replace HB := Lib.hid (below2Z HB.out b1)
  clear b1
  go_wp2_with fail
  have b2 := bl_newZ w1 (.cells #[.int .i64 k1, .string ⟨u1.toArray⟩, .string ⟨o1.toArray⟩, .int .i64 id1, .int .i64 a1, .int .i64 b1, .int .i64 c1, .string ⟨st1.toArray⟩] 26)
  have A := newQ w1 (.cells #[.int .i64 k1, .string ⟨u1.toArray⟩, .string ⟨o1.toArray⟩, .int .i64 id1, .int .i64 a1, .int .i64 b1, .int .i64 c1, .string ⟨st1.toArray⟩] 26)
  have hA : w.heap.size ≤ w1.heap.size := HB.out.size
  replace HB := Lib.hid (below2Z HB.out b2)
  clear b2
  replace A := Lib.hid A
  generalize w1.alloc (.cells #[.int .i64 k1, .string ⟨u1.toArray⟩, .string ⟨o1.toArray⟩, .int .i64 id1, .int .i64 a1, .int .i64 b1, .int .i64 c1, .string ⟨st1.toArray⟩] 26) = w3 at A HB ⊢
  generalize w1.heap.size = BA at A hA ⊢
  refine (rscdec_any s hl1 HD1 _).mono ?_
  rintro e w4 ⟨rfl, b4⟩
  replace A := Lib.hid (upQ A.out b4)
  replace HB := Lib.hid (below2Z HB.out b4)
  clear b4
  go_wp2_with fail
  have b5 := bl_newZ w4 (.cells #[.int .i64 k1, .string ⟨u1.toArray⟩, .string ⟨o1.toArray⟩, .int .i64 id1, .int .i64 a1, .int .i64 b1, .int .i64 c1, .string ⟨st1.toArray⟩] 26)
  have B := newQ w4 (.cells #[.int .i64 k1, .string ⟨u1.toArray⟩, .string ⟨o1.toArray⟩, .int .i64 id1, .int .i64 a1, .int .i64 b1, .int .i64 c1, .string ⟨st1.toArray⟩] 26)
  have hB : w.heap.size ≤ w4.heap.size := HB.out.size
  replace A := Lib.hid (upQ A.out b5)
  replace HB := Lib.hid (below2Z HB.out b5)
  clear b5
  replace B := Lib.hid B
  generalize w4.alloc (.cells #[.int .i64 k1, .string ⟨u1.toArray⟩, .string ⟨o1.toArray⟩, .int .i64 id1, .int .i64 a1, .int .i64 b1, .int .i64 c1, .string ⟨st1.toArray⟩] 26) = w6 at A B HB ⊢
  generalize w4.heap.size = BB at B hB ⊢
  refine (HS.out _).mono ?_
  rintro e w7 ⟨rfl, b7⟩
  replace A := Lib.hid (upQ A.out b7)
  replace B := Lib.hid (upQ B.out b7)
  replace HB := Lib.hid (below2Z HB.out b7)
  clear b7
  go_wp2_with fail
  refine (scdec_any t hl2 HD2 _).mono ?_
  rintro e w8 ⟨rfl, b8⟩
  replace A := Lib.hid (upQ A.out b8)
  replace B := Lib.hid (upQ B.out b8)
  replace HB := Lib.hid (below2Z HB.out b8)
  clear b8
  go_wp2_with fail
  have b9 := bl_newZ w8 (.cells #[.int .i64 k2, .string ⟨u2.toArray⟩, .string ⟨o2.toArray⟩, .int .i64 id2, .int .i64 a2, .int .i64 b2, .int .i64 c2, .string ⟨st2.toArray⟩] 26)
  have C := newQ w8 (.cells #[.int .i64 k2, .string ⟨u2.toArray⟩, .string ⟨o2.toArray⟩, .int .i64 id2, .int .i64 a2, .int .i64 b2, .int .i64 c2, .string ⟨st2.toArray⟩] 26)
  have hC : w.heap.size ≤ w8.heap.size := HB.out.size
  replace A := Lib.hid (upQ A.out b9)
  replace B := Lib.hid (upQ B.out b9)
  replace HB := Lib.hid (below2Z HB.out b9)
  clear b9
  replace C := Lib.hid C
  generalize w8.alloc (.cells #[.int .i64 k2, .string ⟨u2.toArray⟩, .string ⟨o2.toArray⟩, .int .i64 id2, .int .i64 a2, .int .i64 b2, .int .i64 c2, .string ⟨st2.toArray⟩] 26) = w10 at A B C HB ⊢
  generalize w8.heap.size = BC at C hC ⊢
  refine (rscdec_any t hl2 HD2 _).mono ?_
  rintro e w11 ⟨rfl, b11⟩
  replace A := Lib.hid (upQ A.out b11)
  replace B := Lib.hid (upQ B.out b11)
  replace C := Lib.hid (upQ C.out b11)
  replace HB := Lib.hid (below2Z HB.out b11)
  clear b11
  go_wp2_with fail
  have b12 := bl_newZ w11 (.cells #[.int .i64 k2, .string ⟨u2.toArray⟩, .string ⟨o2.toArray⟩, .int .i64 id2, .int .i64 a2, .int .i64 b2, .int .i64 c2, .string ⟨st2.toArray⟩] 26)
  have D := newQ w11 (.cells #[.int .i64 k2, .string ⟨u2.toArray⟩, .string ⟨o2.toArray⟩, .int .i64 id2, .int .i64 a2, .int .i64 b2, .int .i64 c2, .string ⟨st2.toArray⟩] 26)
  have hD : w.heap.size ≤ w11.heap.size := HB.out.size
  replace A := Lib.hid (upQ A.out b12)
  replace B := Lib.hid (upQ B.out b12)
  replace C := Lib.hid (upQ C.out b12)
  replace HB := Lib.hid (below2Z HB.out b12)
  clear b12
  replace D := Lib.hid D
  generalize w11.alloc (.cells #[.int .i64 k2, .string ⟨u2.toArray⟩, .string ⟨o2.toArray⟩, .int .i64 id2, .int .i64 a2, .int .i64 b2, .int .i64 c2, .string ⟨st2.toArray⟩] 26) = w13 at A B C D HB ⊢
  generalize w11.heap.size = BD at D hD ⊢
  refine (scun_any s hl3 _).mono ?_
  rintro e w14 ⟨v, m, er, rfl, hev, hun, b14⟩
  replace A := Lib.hid (upQ A.out b14)
  replace B := Lib.hid (upQ B.out b14)
  replace C := Lib.hid (upQ C.out b14)
  replace D := Lib.hid (upQ D.out b14)
  replace HB := Lib.hid (below2Z HB.out b14)
  clear b14
  obtain ⟨av, cv, hav, -⟩ := RdS.open' hev
  subst hav
  have V := Lib.hid hev
  have HUN := Lib.hid hun
  clear hev hun
  go_wp2_with fail
  refine (rscun_any s hl3 _).mono ?_
  rintro e w15 ⟨v2, m2, er2, rfl, hev, hun, b15⟩
  replace A := Lib.hid (upQ A.out b15)
  replace B := Lib.hid (upQ B.out b15)
  replace C := Lib.hid (upQ C.out b15)
  replace D := Lib.hid (upQ D.out b15)
  replace V := Lib.hid (RdS.later V.out b15)
  replace HB := Lib.hid (below2Z HB.out b15)
  obtain ⟨rfl, rfl⟩ := unIs_one HUN.out hun
  clear b15
  obtain ⟨av2, cv2, hav2, -⟩ := RdS.open' hev
  subst hav2
  have V2 := Lib.hid hev
  clear hev hun HUN
  obtain ⟨⟨Ac0, Ac1, Ac2, Ac3, Ac4, Ac5, Ac6, Ac7⟩, ⟨Af0, Af1, Af2, Af3, Af4, Af5, Af6, Af7⟩⟩ := blk8 A.out
  obtain ⟨⟨Bc0, Bc1, Bc2, Bc3, Bc4, Bc5, Bc6, Bc7⟩, ⟨Bf0, Bf1, Bf2, Bf3, Bf4, Bf5, Bf6, Bf7⟩⟩ := blk8 B.out
  obtain ⟨⟨Cc0, Cc1, Cc2, Cc3, Cc4, Cc5, Cc6, Cc7⟩, ⟨Cf0, Cf1, Cf2, Cf3, Cf4, Cf5, Cf6, Cf7⟩⟩ := blk8 C.out
  obtain ⟨⟨Dc0, Dc1, Dc2, Dc3, Dc4, Dc5, Dc6, Dc7⟩, ⟨Df0, Df1, Df2, Df3, Df4, Df5, Df6, Df7⟩⟩ := blk8 D.out
  go_wp2_with fail
  clear Ac0 Ac1 Ac2 Ac3 Ac4 Ac5 Ac6 Ac7 Af0 Af1 Af2 Af3 Af4 Af5 Af6 Af7 Bc0 Bc1 Bc2 Bc3 Bc4 Bc5 Bc6 Bc7 Bf0 Bf1 Bf2 Bf3 Bf4 Bf5 Bf6 Bf7 Cc0 Cc1 Cc2 Cc3 Cc4 Cc5 Cc6 Cc7 Cf0 Cf1 Cf2 Cf3 Cf4 Cf5 Cf6 Cf7 Dc0 Dc1 Dc2 Dc3 Dc4 Dc5 Dc6 Dc7 Df0 Df1 Df2 Df3 Df4 Df5 Df6 Df7
  refine (scsame_yes V.out V2.out).mono ?_
  rintro e w16 ⟨rfl, b16⟩
  replace A := Lib.hid (upQ A.out b16)
  replace B := Lib.hid (upQ B.out b16)
  replace C := Lib.hid (upQ C.out b16)
  replace D := Lib.hid (upQ D.out b16)
  replace V := Lib.hid (RdS.later V.out b16)
  replace V2 := Lib.hid (RdS.later V2.out b16)
  replace HB := Lib.hid (below2Z HB.out b16)
  clear b16
  go_wp2_with fail
  refine (live23 _).mono ?_
  rintro e w17 ⟨rfl, b17⟩
  replace A := Lib.hid (upQ A.out b17)
  replace B := Lib.hid (upQ B.out b17)
  replace C := Lib.hid (upQ C.out b17)
  replace D := Lib.hid (upQ D.out b17)
  replace V := Lib.hid (RdS.later V.out b17)
  replace V2 := Lib.hid (RdS.later V2.out b17)
  replace HB := Lib.hid (below2Z HB.out b17)
  clear b17
  go_wp2_with fail
  go_ret
  exact ⟨rfl, HB.out⟩

theorem walkScriptReads {w : World} (s : List UInt8) (_ : s.length ≤ maxLen) :
    Calls Try.prog 3 #[.string ⟨s.toArray⟩] w fun e w' => e = .returned (.bool true) ∧ Below w.heap.size w w' := by
  by_cases h : 1500 < s.length
  · exact scwread_no s h
  · exact scwread_yes s (by omega)

end Go.Proofs.Ythfkfonfiejbmaa
