/-
  TEXTS OF THE PROOF, one behind the other: FraLive.
-/
import Derived.Test.YtohfhphiofobcaaS17

/-
  LAYER 6: live.
-/
namespace Go.Proofs.Ytohfhphiofobcaa
open Go.RowKit

theorem lf1 : frMay ⟨1, 300, true, [97, 110, 110], ⟨4, 0, 5, []⟩, 0, []⟩ = true := by decide +kernel
theorem lf2 : frPlain ⟨1, 300, true, [97, 110, 110], ⟨4, 0, 5, []⟩, 0, []⟩ = [1, 172, 2, 1, 3, 97, 110, 110, 4, 128, 5, 0] := by decide +kernel
theorem lf3 : frEnc ⟨1, 300, true, [97, 110, 110], ⟨4, 0, 5, []⟩, 0, []⟩ = (cseal [1, 172, 2, 1, 3, 97, 110, 110, 4, 128, 5, 0], 0) := by unfold frEnc; rw [if_pos lf1, lf2]
theorem lf4 : frDec (cseal [1, 172, 2, 1, 3, 97, 110, 110, 4, 128, 5, 0]) = (⟨1, 300, true, [97, 110, 110], ⟨4, 0, 5, []⟩, 0, []⟩, 0) := (frDec_plain lf1 (by decide) (by rw [lf2])).1
theorem lf5 : frMay ⟨4, 5, false, [], ⟨0, 0, 0, []⟩, 0, []⟩ = true := by decide +kernel
theorem lf6 : frPlain ⟨4, 5, false, [], ⟨0, 0, 0, []⟩, 0, []⟩ = [4, 5] := by decide +kernel
theorem lf7 : frEnc ⟨4, 5, false, [], ⟨0, 0, 0, []⟩, 0, []⟩ = (cseal [4, 5], 0) := by unfold frEnc; rw [if_pos lf5, lf6]
theorem lf8 : frMay ⟨4, 0, true, [], ⟨0, 0, 0, []⟩, 0, []⟩ = false := by decide +kernel
theorem lf9 : frEnc ⟨4, 0, true, [], ⟨0, 0, 0, []⟩, 0, []⟩ = ([], 1) := by unfold frEnc; rw [if_neg (by rw [lf8]; decide)]
theorem lf10 : frDec [97, 98, 99] = (⟨0, 0, false, [], ⟨0, 0, 0, []⟩, 0, []⟩, 2) := by
  have h : copen [97, 98, 99] = ([], 2) := by decide +kernel
  unfold frDec; rw [h, if_pos (by decide)]; rfl
theorem lf11 : frDec [97, 98, 99, 100, 101, 102] = (⟨0, 0, false, [], ⟨0, 0, 0, []⟩, 0, []⟩, 4) := by
  have h : copen [97, 98, 99, 100, 101, 102] = ([], 4) := by decide +kernel
  unfold frDec; rw [h, if_pos (by decide)]; rfl
theorem lf12 : frDec (cseal [5, 0]) = (⟨0, 0, false, [], ⟨0, 0, 0, []⟩, 0, []⟩, 3) := by
  unfold frDec; rw [copen_seal, if_neg (by decide)]; rfl
theorem lf13 : frMay ⟨0, 0, false, [], ⟨0, 0, 0, []⟩, 0, []⟩ = false := frMay_zero
theorem lf14 : frSame ⟨1, 300, true, [97, 110, 110], ⟨4, 0, 5, []⟩, 0, []⟩ ⟨1, 300, true, [97, 110, 110], ⟨4, 0, 5, []⟩, 0, []⟩ = true := frSame_iff.2 rfl
theorem lf15 : frSame ⟨1, 300, true, [97, 110, 110], ⟨4, 0, 5, []⟩, 0, []⟩ ⟨0, 0, false, [], ⟨0, 0, 0, []⟩, 0, []⟩ = false := by decide +kernel

theorem frsame_eqF {w : World} {v v2 : Value} {t t2 : List Row} (hv : Tab w v t) (hv2 : Tab w v2 t2) {k s : Int} {on : Bool} {c : List UInt8} {sh pr si : Int} {st : List UInt8} {sum : Nat} {k2 s2 : Int} {on2 : Bool} {c2 : List UInt8} {sh2 pr2 si2 : Int} {st2 : List UInt8} {sum2 : Nat} {r : Bool} (h : Hid (frSame ⟨k, s, on, c, ⟨sh, pr, si, st⟩, sum, t⟩ ⟨k2, s2, on2, c2, ⟨sh2, pr2, si2, st2⟩, sum2, t2⟩ = r)) :
    Calls Try.prog 16 #[.agg #[.int .i64 k, .int .i64 s, .bool on, .string ⟨c.toArray⟩, .int .i64 sh, .int .i64 pr, .int .i64 si, .string ⟨st.toArray⟩, .int .u64 sum, v], .agg #[.int .i64 k2, .int .i64 s2, .bool on2, .string ⟨c2.toArray⟩, .int .i64 sh2, .int .i64 pr2, .int .i64 si2, .string ⟨st2.toArray⟩, .int .u64 sum2, v2]] w fun e w' => e = .returned (.bool r) ∧ Below w.heap.size w w' := by
  have := frsame_any hv hv2 k s on c sh pr si st sum k2 s2 on2 c2 sh2 pr2 si2 st2 sum2
  rw [h.out] at this
  exact this

theorem seal_lenL (l : List UInt8) : (cseal l).length = l.length + 4 := by
  unfold cseal
  rw [List.length_append]
  rfl

set_option maxHeartbeats 3200000 in
set_option maxRecDepth 100000 in
theorem live6 (w : World) : Calls Try.prog 11 #[] w fun e w' => e = .returned (.bool true) ∧ Below w.heap.size w w' := by
  have heq := fun w => (val_eql5 4 0 5 4 0 5 [] [] w).trans (congrArg (fun b => Result.ok (Value.bool b) w) (vSame_iff.2 rfl))
  have hgd : Try.prog.eqGuardType Try.prog.depth 23 = false := by kernel_rfl
  have HEQ := Lib.hid heq
  clear heq
  obtain ⟨s1, hs1⟩ : ∃ s1, cseal [1, 172, 2, 1, 3, 97, 110, 110, 4, 128, 5, 0] = s1 := ⟨_, rfl⟩
  obtain ⟨s2, hs2⟩ : ∃ s2, cseal [4, 5] = s2 := ⟨_, rfl⟩
  obtain ⟨s3, hs3⟩ : ∃ s3, cseal [5, 0] = s3 := ⟨_, rfl⟩
  have HX : Hid (frEnc ⟨1, 300, true, [97, 110, 110], ⟨4, 0, 5, []⟩, 0, []⟩ = (s1, 0)) := Lib.hid (by rw [← hs1]; exact lf3)
  have HY : Hid (frEnc ⟨4, 5, false, [], ⟨0, 0, 0, []⟩, 0, []⟩ = (s2, 0)) := Lib.hid (by rw [← hs2]; exact lf7)
  have HN : Hid (frEnc ⟨4, 0, true, [], ⟨0, 0, 0, []⟩, 0, []⟩ = ([], 1)) := Lib.hid lf9
  have HD1 : Hid (frDec s1 = (⟨1, 300, true, [97, 110, 110], ⟨4, 0, 5, []⟩, 0, []⟩, 0)) := Lib.hid (by rw [← hs1]; exact lf4)
  have HD2 : Hid (frDec [97, 98, 99] = (⟨0, 0, false, [], ⟨0, 0, 0, []⟩, 0, []⟩, 2)) := Lib.hid lf10
  have HD3 : Hid (frDec [97, 98, 99, 100, 101, 102] = (⟨0, 0, false, [], ⟨0, 0, 0, []⟩, 0, []⟩, 4)) := Lib.hid lf11
  have HD4 : Hid (frDec s3 = (⟨0, 0, false, [], ⟨0, 0, 0, []⟩, 0, []⟩, 3)) := Lib.hid (by rw [← hs3]; exact lf12)
  have L1 : s1.length ≤ 4294967296 := by rw [← hs1, seal_lenL]; decide
  have L3 : s3.length ≤ 4294967296 := by rw [← hs3, seal_lenL]; decide
  have HS1 := Lib.hid (rseal_any [1, 172, 2, 1, 3, 97, 110, 110, 4, 128, 5, 0] (by decide))
  have HS2 := Lib.hid (rseal_any [4, 5] (by decide))
  have HS3 := Lib.hid (rseal_any [5, 0] (by decide))
  rw [hs1] at HS1
  rw [hs2] at HS2
  rw [hs3] at HS3
  have hsn : Short [] := fun r hr => by simp at hr
  clear hs1 hs2 hs3
  have b0 := bl_newZ w (.cells #[.int .i64 4, .int .i64 0, .int .i64 5, .string ⟨#[]⟩] 23)
  have HB := Lib.hid b0
  have VB := newQ w (.cells #[.int .i64 4, .int .i64 0, .int .i64 5, .string ⟨#[]⟩] 23)
  replace VB := Lib.hid VB
  clear b0
  go_enter Try.func11, Try.ntmps11
  obtain ⟨⟨VBc0, VBc1, VBc2, VBc3⟩, ⟨VBf0, VBf1, VBf2, VBf3⟩⟩ := blk4 VB.out
  go_wp2_with fail
  clear VBc0 VBc1 VBc2 VBc3 VBf0 VBf1 VBf2 VBf3
  refine (frenc_any (OwnR.tab (ownR_nil _ 0)) hsn 1 300 true [97, 110, 110] 4 0 5 [] 0 (by decide) (by decide) (by decide) HX).mono ?_
  rintro e w2 ⟨rfl, b2⟩
  replace VB := Lib.hid (upQ VB.out b2)
  replace HB := Lib.hid (below2Z HB.out b2)
  clear b2
  go_wp2_with fail
  refine (frdec_any s1 L1 HD1 _).mono ?_
  rintro e w3 ⟨v3, rfl, hov3, b3⟩
  replace VB := Lib.hid (upQ VB.out b3)
  replace HB := Lib.hid (below2Z HB.out b3)
  obtain ⟨va3, vc3, rfl, -⟩ := Tab.open' (OwnR.tab hov3)
  have V := Lib.hid (OwnR.tab hov3)
  clear hov3
  clear b3
  go_wp2_with fail
  have b4 := bl_newZ w3 (.cells #[.int .i64 1, .int .i64 300, .bool true, .string ⟨#[97, 110, 110]⟩, .int .i64 4, .int .i64 0, .int .i64 5, .string ⟨#[]⟩, .int .u64 0, .slice va3 0 vc3] 27)
  have D := newQ w3 (.cells #[.int .i64 1, .int .i64 300, .bool true, .string ⟨#[97, 110, 110]⟩, .int .i64 4, .int .i64 0, .int .i64 5, .string ⟨#[]⟩, .int .u64 0, .slice va3 0 vc3] 27)
  have hD : w.heap.size ≤ w3.heap.size := HB.out.size
  replace VB := Lib.hid (upQ VB.out b4)
  replace V := Lib.hid (Tab.later V.out b4)
  replace HB := Lib.hid (below2Z HB.out b4)
  clear b4
  replace D := Lib.hid D
  generalize w3.alloc (.cells #[.int .i64 1, .int .i64 300, .bool true, .string ⟨#[97, 110, 110]⟩, .int .i64 4, .int .i64 0, .int .i64 5, .string ⟨#[]⟩, .int .u64 0, .slice va3 0 vc3] 27) = w5 at VB D V HB ⊢
  generalize w3.heap.size = BD at D hD ⊢
  refine (frenc_any (OwnR.tab (ownR_nil _ 0)) hsn 4 5 false [] 0 0 0 [] 0 (by decide) (by decide) (by decide) HY).mono ?_
  rintro e w6 ⟨rfl, b6⟩
  replace VB := Lib.hid (upQ VB.out b6)
  replace D := Lib.hid (upQ D.out b6)
  replace V := Lib.hid (Tab.later V.out b6)
  replace HB := Lib.hid (below2Z HB.out b6)
  clear b6
  go_wp2_with fail
  refine (frenc_any (OwnR.tab (ownR_nil _ 0)) hsn 4 0 true [] 0 0 0 [] 0 (by decide) (by decide) (by decide) HN).mono ?_
  rintro e w7 ⟨rfl, b7⟩
  replace VB := Lib.hid (upQ VB.out b7)
  replace D := Lib.hid (upQ D.out b7)
  replace V := Lib.hid (Tab.later V.out b7)
  replace HB := Lib.hid (below2Z HB.out b7)
  clear b7
  go_wp2_with fail
  refine (frdec_any [97, 98, 99] (by decide) HD2 _).mono ?_
  rintro e w8 ⟨v8, rfl, hov8, b8⟩
  replace VB := Lib.hid (upQ VB.out b8)
  replace D := Lib.hid (upQ D.out b8)
  replace V := Lib.hid (Tab.later V.out b8)
  replace HB := Lib.hid (below2Z HB.out b8)
  obtain ⟨va8, vc8, rfl, -⟩ := Tab.open' (OwnR.tab hov8)
  clear hov8
  clear b8
  go_wp2_with fail
  have b9 := bl_newZ w8 (.cells #[.int .i64 0, .int .i64 0, .bool false, .string ⟨#[]⟩, .int .i64 0, .int .i64 0, .int .i64 0, .string ⟨#[]⟩, .int .u64 0, .slice va8 0 vc8] 27)
  have U := newQ w8 (.cells #[.int .i64 0, .int .i64 0, .bool false, .string ⟨#[]⟩, .int .i64 0, .int .i64 0, .int .i64 0, .string ⟨#[]⟩, .int .u64 0, .slice va8 0 vc8] 27)
  have hU : w.heap.size ≤ w8.heap.size := HB.out.size
  replace VB := Lib.hid (upQ VB.out b9)
  replace D := Lib.hid (upQ D.out b9)
  replace V := Lib.hid (Tab.later V.out b9)
  replace HB := Lib.hid (below2Z HB.out b9)
  clear b9
  replace U := Lib.hid U
  generalize w8.alloc (.cells #[.int .i64 0, .int .i64 0, .bool false, .string ⟨#[]⟩, .int .i64 0, .int .i64 0, .int .i64 0, .string ⟨#[]⟩, .int .u64 0, .slice va8 0 vc8] 27) = w10 at VB D U V HB ⊢
  generalize w8.heap.size = BU at U hU ⊢
  clear U
  clear hU
  refine (frdec_any [97, 98, 99, 100, 101, 102] (by decide) HD3 _).mono ?_
  rintro e w11 ⟨v11, rfl, hov11, b11⟩
  replace VB := Lib.hid (upQ VB.out b11)
  replace D := Lib.hid (upQ D.out b11)
  replace V := Lib.hid (Tab.later V.out b11)
  replace HB := Lib.hid (below2Z HB.out b11)
  obtain ⟨va11, vc11, rfl, -⟩ := Tab.open' (OwnR.tab hov11)
  clear hov11
  clear b11
  go_wp2_with fail
  have b12 := bl_newZ w11 (.cells #[.int .i64 0, .int .i64 0, .bool false, .string ⟨#[]⟩, .int .i64 0, .int .i64 0, .int .i64 0, .string ⟨#[]⟩, .int .u64 0, .slice va11 0 vc11] 27)
  have U2 := newQ w11 (.cells #[.int .i64 0, .int .i64 0, .bool false, .string ⟨#[]⟩, .int .i64 0, .int .i64 0, .int .i64 0, .string ⟨#[]⟩, .int .u64 0, .slice va11 0 vc11] 27)
  have hU2 : w.heap.size ≤ w11.heap.size := HB.out.size
  replace VB := Lib.hid (upQ VB.out b12)
  replace D := Lib.hid (upQ D.out b12)
  replace V := Lib.hid (Tab.later V.out b12)
  replace HB := Lib.hid (below2Z HB.out b12)
  clear b12
  replace U2 := Lib.hid U2
  generalize w11.alloc (.cells #[.int .i64 0, .int .i64 0, .bool false, .string ⟨#[]⟩, .int .i64 0, .int .i64 0, .int .i64 0, .string ⟨#[]⟩, .int .u64 0, .slice va11 0 vc11] 27) = w13 at VB D U2 V HB ⊢
  generalize w11.heap.size = BU2 at U2 hU2 ⊢
  clear U2
  clear hU2
  refine (HS3.out _).mono ?_
  rintro e w14 ⟨rfl, b14⟩
  replace VB := Lib.hid (upQ VB.out b14)
  replace D := Lib.hid (upQ D.out b14)
  replace V := Lib.hid (Tab.later V.out b14)
  replace HB := Lib.hid (below2Z HB.out b14)
  clear b14
  go_wp2_with fail
  refine (frdec_any s3 L3 HD4 _).mono ?_
  rintro e w15 ⟨v15, rfl, hov15, b15⟩
  replace VB := Lib.hid (upQ VB.out b15)
  replace D := Lib.hid (upQ D.out b15)
  replace V := Lib.hid (Tab.later V.out b15)
  replace HB := Lib.hid (below2Z HB.out b15)
  obtain ⟨va15, vc15, rfl, -⟩ := Tab.open' (OwnR.tab hov15)
  clear hov15
  clear b15
  go_wp2_with fail
  have b16 := bl_newZ w15 (.cells #[.int .i64 0, .int .i64 0, .bool false, .string ⟨#[]⟩, .int .i64 0, .int .i64 0, .int .i64 0, .string ⟨#[]⟩, .int .u64 0, .slice va15 0 vc15] 27)
  have U3 := newQ w15 (.cells #[.int .i64 0, .int .i64 0, .bool false, .string ⟨#[]⟩, .int .i64 0, .int .i64 0, .int .i64 0, .string ⟨#[]⟩, .int .u64 0, .slice va15 0 vc15] 27)
  have hU3 : w.heap.size ≤ w15.heap.size := HB.out.size
  replace VB := Lib.hid (upQ VB.out b16)
  replace D := Lib.hid (upQ D.out b16)
  replace V := Lib.hid (Tab.later V.out b16)
  replace HB := Lib.hid (below2Z HB.out b16)
  clear b16
  replace U3 := Lib.hid U3
  generalize w15.alloc (.cells #[.int .i64 0, .int .i64 0, .bool false, .string ⟨#[]⟩, .int .i64 0, .int .i64 0, .int .i64 0, .string ⟨#[]⟩, .int .u64 0, .slice va15 0 vc15] 27) = w17 at VB D U3 V HB ⊢
  generalize w15.heap.size = BU3 at U3 hU3 ⊢
  clear U3
  clear hU3
  refine (HS1.out _).mono ?_
  rintro e w18 ⟨rfl, b18⟩
  replace VB := Lib.hid (upQ VB.out b18)
  replace D := Lib.hid (upQ D.out b18)
  replace V := Lib.hid (Tab.later V.out b18)
  replace HB := Lib.hid (below2Z HB.out b18)
  clear b18
  obtain ⟨⟨Dc0, Dc1, Dc2, Dc3, Dc4, Dc5, Dc6, Dc7, Dc8, Dc9⟩, ⟨Df0, Df1, Df2, Df3, Df4, Df5, Df6, Df7, Df8, Df9⟩⟩ := blk10 D.out
  obtain ⟨⟨VBc0, VBc1, VBc2, VBc3⟩, ⟨VBf0, VBf1, VBf2, VBf3⟩⟩ := blk4 VB.out
  have heq := HEQ.out
  go_wp2_with fail
  clear heq
  clear Dc0 Dc1 Dc2 Dc3 Dc4 Dc5 Dc6 Dc7 Dc8 Dc9 Df0 Df1 Df2 Df3 Df4 Df5 Df6 Df7 Df8 Df9 VBc0 VBc1 VBc2 VBc3 VBf0 VBf1 VBf2 VBf3
  refine (HS2.out _).mono ?_
  rintro e w19 ⟨rfl, b19⟩
  replace VB := Lib.hid (upQ VB.out b19)
  replace D := Lib.hid (upQ D.out b19)
  replace V := Lib.hid (Tab.later V.out b19)
  replace HB := Lib.hid (below2Z HB.out b19)
  clear b19
  obtain ⟨⟨Dc0, Dc1, Dc2, Dc3, Dc4, Dc5, Dc6, Dc7, Dc8, Dc9⟩, ⟨Df0, Df1, Df2, Df3, Df4, Df5, Df6, Df7, Df8, Df9⟩⟩ := blk10 D.out
  go_wp2_with fail
  clear Dc0 Dc1 Dc2 Dc3 Dc4 Dc5 Dc6 Dc7 Dc8 Dc9 Df0 Df1 Df2 Df3 Df4 Df5 Df6 Df7 Df8 Df9
  refine (frmay_eqF V.out hsn (by decide) (by decide) (Lib.hid lf1)).mono ?_
  rintro e w20 ⟨rfl, b20⟩
  replace VB := Lib.hid (upQ VB.out b20)
  replace D := Lib.hid (upQ D.out b20)
  replace V := Lib.hid (Tab.later V.out b20)
  replace HB := Lib.hid (below2Z HB.out b20)
  clear b20
  obtain ⟨⟨Dc0, Dc1, Dc2, Dc3, Dc4, Dc5, Dc6, Dc7, Dc8, Dc9⟩, ⟨Df0, Df1, Df2, Df3, Df4, Df5, Df6, Df7, Df8, Df9⟩⟩ := blk10 D.out
  go_wp2_with fail
  clear Dc0 Dc1 Dc2 Dc3 Dc4 Dc5 Dc6 Dc7 Dc8 Dc9 Df0 Df1 Df2 Df3 Df4 Df5 Df6 Df7 Df8 Df9
  refine (frmay_eqF (OwnR.tab (ownR_nil _ 0)) hsn (by decide) (by decide) (Lib.hid lf13)).mono ?_
  rintro e w21 ⟨rfl, b21⟩
  replace VB := Lib.hid (upQ VB.out b21)
  replace D := Lib.hid (upQ D.out b21)
  replace V := Lib.hid (Tab.later V.out b21)
  replace HB := Lib.hid (below2Z HB.out b21)
  clear b21
  obtain ⟨⟨Dc0, Dc1, Dc2, Dc3, Dc4, Dc5, Dc6, Dc7, Dc8, Dc9⟩, ⟨Df0, Df1, Df2, Df3, Df4, Df5, Df6, Df7, Df8, Df9⟩⟩ := blk10 D.out
  go_wp2_with fail
  clear Dc0 Dc1 Dc2 Dc3 Dc4 Dc5 Dc6 Dc7 Dc8 Dc9 Df0 Df1 Df2 Df3 Df4 Df5 Df6 Df7 Df8 Df9
  refine (frsame_eqF V.out V.out (Lib.hid lf14)).mono ?_
  rintro e w22 ⟨rfl, b22⟩
  replace VB := Lib.hid (upQ VB.out b22)
  replace D := Lib.hid (upQ D.out b22)
  replace V := Lib.hid (Tab.later V.out b22)
  replace HB := Lib.hid (below2Z HB.out b22)
  clear b22
  obtain ⟨⟨Dc0, Dc1, Dc2, Dc3, Dc4, Dc5, Dc6, Dc7, Dc8, Dc9⟩, ⟨Df0, Df1, Df2, Df3, Df4, Df5, Df6, Df7, Df8, Df9⟩⟩ := blk10 D.out
  go_wp2_with fail
  clear Dc0 Dc1 Dc2 Dc3 Dc4 Dc5 Dc6 Dc7 Dc8 Dc9 Df0 Df1 Df2 Df3 Df4 Df5 Df6 Df7 Df8 Df9
  refine (frsame_eqF V.out (OwnR.tab (ownR_nil _ 0)) (Lib.hid lf15)).mono ?_
  rintro e w23 ⟨rfl, b23⟩
  replace VB := Lib.hid (upQ VB.out b23)
  replace D := Lib.hid (upQ D.out b23)
  replace V := Lib.hid (Tab.later V.out b23)
  replace HB := Lib.hid (below2Z HB.out b23)
  clear b23
  go_wp2_with fail
  go_ret
  exact ⟨rfl, HB.out⟩

end Go.Proofs.Ytohfhphiofobcaa
