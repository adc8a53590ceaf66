/-
  THE PROOF OF FrameReads: for every input the law returns true, and each argument reads behind the call as it read before. No condition.
-/
import Derived.Test.YtohfhphiofobcaaR14
import Derived.Test.YtohfhphiofobcaaR17
import Derived.Test.YtohfhphiofobcaaRows
import Derived.ProofKit
import Derived.OpenShut
import Derived.ShutString
import Derived.ChangeOld
import Derived.SliceStrings
import Derived.Lib.SmallJoins

section

/-
  THE WALK OF FrameReads.
-/
namespace Go.Proofs.Ytohfhphiofobcaa
open Go.RowKit

theorem rfrsame_eqF {w : World} {v v2 : Value} {t t2 : List Row} (hv : Tab w v t) (hv2 : Tab w v2 t2) {k s : Int} {on : Bool} {c : List UInt8} {sh pr si : Int} {st : List UInt8} {sum : Nat} {k2 s2 : Int} {on2 : Bool} {c2 : List UInt8} {sh2 pr2 si2 : Int} {st2 : List UInt8} {sum2 : Nat} {r : Bool} (h : Hid (frSame ⟨k, s, on, c, ⟨sh, pr, si, st⟩, sum, t⟩ ⟨k2, s2, on2, c2, ⟨sh2, pr2, si2, st2⟩, sum2, t2⟩ = r)) :
    Calls Try.prog 17 #[.agg #[.int .i64 k, .int .i64 s, .bool on, .string ⟨c.toArray⟩, .int .i64 sh, .int .i64 pr, .int .i64 si, .string ⟨st.toArray⟩, .int .u64 sum, v], .agg #[.int .i64 k2, .int .i64 s2, .bool on2, .string ⟨c2.toArray⟩, .int .i64 sh2, .int .i64 pr2, .int .i64 si2, .string ⟨st2.toArray⟩, .int .u64 sum2, v2]] w fun e w' => e = .returned (.bool r) ∧ Below w.heap.size w w' := by
  have := rfrsame_any hv hv2 k s on c sh pr si st sum k2 s2 on2 c2 sh2 pr2 si2 st2 sum2
  rw [h.out] at this
  exact this

set_option maxHeartbeats 3200000 in
set_option maxRecDepth 100000 in
theorem fwr_long {w : World} (l : List UInt8) (h : 1500 < l.length) :
    Calls Try.prog 4 #[.string ⟨l.toArray⟩] w fun e w' => e = .returned (.bool true) ∧ Below w.heap.size w w' := by
  have hs1 : (⟨l.toArray⟩ : ByteArray).size = l.length := size_bytes l
  have tl : decide (1500 < (l.length : Int)) = true := by rw [decide_eq_true_eq]; omega
  have tl2 : decide (1500 < l.length) = true := by rw [decide_eq_true_eq]; omega
  have HB := Lib.hid (Below.refl w.heap.size w)
  go_enter Try.func4, Try.ntmps4
  go_wp2_with fail
  refine (live6 _).mono ?_
  rintro e w1 ⟨rfl, b1⟩
  replace HB := Lib.hid (below2Z HB.out b1)
  clear b1
  go_wp2_with fail
  go_ret
  exact ⟨rfl, HB.out⟩

set_option maxHeartbeats 3200000 in
set_option maxRecDepth 100000 in
theorem fwr_short {w : World} (l : List UInt8) (h : l.length ≤ 1500) {k1 q1 sh1 pr1 si1 : Int} {on1 : Bool} {c1 st1 : List UInt8} {sum1 : Nat} {tt1 : List Row} {e1 : Nat} (H1 : Hid (frDec l = (⟨k1, q1, on1, c1, ⟨sh1, pr1, si1, st1⟩, sum1, tt1⟩, e1))) {k2 q2 sh2 pr2 si2 : Int} {on2 : Bool} {c2 st2 : List UInt8} {sum2 : Nat} {tt2 : List Row} {e2 : Nat} (H2 : Hid (frDec (cseal l) = (⟨k2, q2, on2, c2, ⟨sh2, pr2, si2, st2⟩, sum2, tt2⟩, e2))) :
    Calls Try.prog 4 #[.string ⟨l.toArray⟩] w fun e w' => e = .returned (.bool true) ∧ Below w.heap.size w w' := by
  have hs1 : (⟨l.toArray⟩ : ByteArray).size = l.length := size_bytes l
  have tl : decide (1500 < (l.length : Int)) = false := by rw [decide_eq_false_iff_not]; omega
  have tl2 : decide (1500 < l.length) = false := by rw [decide_eq_false_iff_not]; omega
  have hl2 : l.length ≤ 4294967296 := by omega
  have HS := Lib.hid (rseal_any l hl2)
  have hm : (cseal l).length ≤ 4294967296 := by rw [seal_lenL]; omega
  obtain ⟨m, hme⟩ : ∃ m, cseal l = m := ⟨_, rfl⟩
  rw [hme] at HS hm H2
  clear hme
  have HQ1 := Lib.hid (frSame_iff.2 (rfl : (⟨k1, q1, on1, c1, ⟨sh1, pr1, si1, st1⟩, sum1, tt1⟩ : Frm) = ⟨k1, q1, on1, c1, ⟨sh1, pr1, si1, st1⟩, sum1, tt1⟩))
  have HQ2 := Lib.hid (frSame_iff.2 (rfl : (⟨k2, q2, on2, c2, ⟨sh2, pr2, si2, st2⟩, sum2, tt2⟩ : Frm) = ⟨k2, q2, on2, c2, ⟨sh2, pr2, si2, st2⟩, sum2, tt2⟩))
  have HB := Lib.hid (Below.refl w.heap.size w)
  go_enter Try.func4, Try.ntmps4
  go_wp2_with fail
  refine (frdec_any l hl2 H1 _).mono ?_
  rintro e w1 ⟨v1, rfl, hov1, b1⟩
  replace HB := Lib.hid (below2Z HB.out b1)
  obtain ⟨va1, vc1, rfl, -⟩ := Tab.open' (OwnR.tab hov1)
  have VA := Lib.hid (OwnR.tab hov1)
  clear hov1
  clear b1
  go_wp2_with fail
  have b2 := bl_newZ w1 (.cells #[.int .i64 k1, .int .i64 q1, .bool on1, .string ⟨c1.toArray⟩, .int .i64 sh1, .int .i64 pr1, .int .i64 si1, .string ⟨st1.toArray⟩, .int .u64 sum1, .slice va1 tt1.length vc1] 27)
  have A := newQ w1 (.cells #[.int .i64 k1, .int .i64 q1, .bool on1, .string ⟨c1.toArray⟩, .int .i64 sh1, .int .i64 pr1, .int .i64 si1, .string ⟨st1.toArray⟩, .int .u64 sum1, .slice va1 tt1.length vc1] 27)
  have hA : w.heap.size ≤ w1.heap.size := HB.out.size
  replace VA := Lib.hid (Tab.later VA.out b2)
  replace HB := Lib.hid (below2Z HB.out b2)
  clear b2
  replace A := Lib.hid A
  generalize w1.alloc (.cells #[.int .i64 k1, .int .i64 q1, .bool on1, .string ⟨c1.toArray⟩, .int .i64 sh1, .int .i64 pr1, .int .i64 si1, .string ⟨st1.toArray⟩, .int .u64 sum1, .slice va1 tt1.length vc1] 27) = w3 at A VA HB ⊢
  generalize w1.heap.size = BA at A hA ⊢
  refine (rfrdec_any l hl2 H1 _).mono ?_
  rintro e w4 ⟨v4, rfl, hov4, b4⟩
  replace A := Lib.hid (upQ A.out b4)
  replace VA := Lib.hid (Tab.later VA.out b4)
  replace HB := Lib.hid (below2Z HB.out b4)
  obtain ⟨va4, vc4, rfl, -⟩ := Tab.open' (OwnR.tab hov4)
  have VB := Lib.hid (OwnR.tab hov4)
  clear hov4
  clear b4
  go_wp2_with fail
  have b5 := bl_newZ w4 (.cells #[.int .i64 k1, .int .i64 q1, .bool on1, .string ⟨c1.toArray⟩, .int .i64 sh1, .int .i64 pr1, .int .i64 si1, .string ⟨st1.toArray⟩, .int .u64 sum1, .slice va4 tt1.length vc4] 27)
  have B := newQ w4 (.cells #[.int .i64 k1, .int .i64 q1, .bool on1, .string ⟨c1.toArray⟩, .int .i64 sh1, .int .i64 pr1, .int .i64 si1, .string ⟨st1.toArray⟩, .int .u64 sum1, .slice va4 tt1.length vc4] 27)
  have hB : w.heap.size ≤ w4.heap.size := HB.out.size
  replace A := Lib.hid (upQ A.out b5)
  replace VA := Lib.hid (Tab.later VA.out b5)
  replace VB := Lib.hid (Tab.later VB.out b5)
  replace HB := Lib.hid (below2Z HB.out b5)
  clear b5
  replace B := Lib.hid B
  generalize w4.alloc (.cells #[.int .i64 k1, .int .i64 q1, .bool on1, .string ⟨c1.toArray⟩, .int .i64 sh1, .int .i64 pr1, .int .i64 si1, .string ⟨st1.toArray⟩, .int .u64 sum1, .slice va4 tt1.length vc4] 27) = w6 at A B VA VB HB ⊢
  generalize w4.heap.size = BB at B hB ⊢
  refine (HS.out _).mono ?_
  rintro e w7 ⟨rfl, b7⟩
  replace A := Lib.hid (upQ A.out b7)
  replace B := Lib.hid (upQ B.out b7)
  replace VA := Lib.hid (Tab.later VA.out b7)
  replace VB := Lib.hid (Tab.later VB.out b7)
  replace HB := Lib.hid (below2Z HB.out b7)
  clear b7
  go_wp2_with fail
  refine (frdec_any m hm H2 _).mono ?_
  rintro e w8 ⟨v8, rfl, hov8, b8⟩
  replace A := Lib.hid (upQ A.out b8)
  replace B := Lib.hid (upQ B.out b8)
  replace VA := Lib.hid (Tab.later VA.out b8)
  replace VB := Lib.hid (Tab.later VB.out b8)
  replace HB := Lib.hid (below2Z HB.out b8)
  obtain ⟨va8, vc8, rfl, -⟩ := Tab.open' (OwnR.tab hov8)
  have VC := Lib.hid (OwnR.tab hov8)
  clear hov8
  clear b8
  go_wp2_with fail
  have b9 := bl_newZ w8 (.cells #[.int .i64 k2, .int .i64 q2, .bool on2, .string ⟨c2.toArray⟩, .int .i64 sh2, .int .i64 pr2, .int .i64 si2, .string ⟨st2.toArray⟩, .int .u64 sum2, .slice va8 tt2.length vc8] 27)
  have C := newQ w8 (.cells #[.int .i64 k2, .int .i64 q2, .bool on2, .string ⟨c2.toArray⟩, .int .i64 sh2, .int .i64 pr2, .int .i64 si2, .string ⟨st2.toArray⟩, .int .u64 sum2, .slice va8 tt2.length vc8] 27)
  have hC : w.heap.size ≤ w8.heap.size := HB.out.size
  replace A := Lib.hid (upQ A.out b9)
  replace B := Lib.hid (upQ B.out b9)
  replace VA := Lib.hid (Tab.later VA.out b9)
  replace VB := Lib.hid (Tab.later VB.out b9)
  replace VC := Lib.hid (Tab.later VC.out b9)
  replace HB := Lib.hid (below2Z HB.out b9)
  clear b9
  replace C := Lib.hid C
  generalize w8.alloc (.cells #[.int .i64 k2, .int .i64 q2, .bool on2, .string ⟨c2.toArray⟩, .int .i64 sh2, .int .i64 pr2, .int .i64 si2, .string ⟨st2.toArray⟩, .int .u64 sum2, .slice va8 tt2.length vc8] 27) = w10 at A B C VA VB VC HB ⊢
  generalize w8.heap.size = BC at C hC ⊢
  refine (rfrdec_any m hm H2 _).mono ?_
  rintro e w11 ⟨v11, rfl, hov11, b11⟩
  replace A := Lib.hid (upQ A.out b11)
  replace B := Lib.hid (upQ B.out b11)
  replace C := Lib.hid (upQ C.out b11)
  replace VA := Lib.hid (Tab.later VA.out b11)
  replace VB := Lib.hid (Tab.later VB.out b11)
  replace VC := Lib.hid (Tab.later VC.out b11)
  replace HB := Lib.hid (below2Z HB.out b11)
  obtain ⟨va11, vc11, rfl, -⟩ := Tab.open' (OwnR.tab hov11)
  have VE := Lib.hid (OwnR.tab hov11)
  clear hov11
  clear b11
  obtain ⟨⟨Ac0, Ac1, Ac2, Ac3, Ac4, Ac5, Ac6, Ac7, Ac8, Ac9⟩, ⟨Af0, Af1, Af2, Af3, Af4, Af5, Af6, Af7, Af8, Af9⟩⟩ := blk10 A.out
  obtain ⟨⟨Bc0, Bc1, Bc2, Bc3, Bc4, Bc5, Bc6, Bc7, Bc8, Bc9⟩, ⟨Bf0, Bf1, Bf2, Bf3, Bf4, Bf5, Bf6, Bf7, Bf8, Bf9⟩⟩ := blk10 B.out
  have hAl := (Array.getElem?_eq_some_iff.1 A.out).1
  have hBl := (Array.getElem?_eq_some_iff.1 B.out).1
  go_wp2_with fail
  clear Ac0 Ac1 Ac2 Ac3 Ac4 Ac5 Ac6 Ac7 Ac8 Ac9 Af0 Af1 Af2 Af3 Af4 Af5 Af6 Af7 Af8 Af9 Bc0 Bc1 Bc2 Bc3 Bc4 Bc5 Bc6 Bc7 Bc8 Bc9 Bf0 Bf1 Bf2 Bf3 Bf4 Bf5 Bf6 Bf7 Bf8 Bf9 hAl hBl
  have b12 := bl_newZ w11 (.cells #[.int .i64 k2, .int .i64 q2, .bool on2, .string ⟨c2.toArray⟩, .int .i64 sh2, .int .i64 pr2, .int .i64 si2, .string ⟨st2.toArray⟩, .int .u64 sum2, .slice va11 tt2.length vc11] 27)
  have E := newQ w11 (.cells #[.int .i64 k2, .int .i64 q2, .bool on2, .string ⟨c2.toArray⟩, .int .i64 sh2, .int .i64 pr2, .int .i64 si2, .string ⟨st2.toArray⟩, .int .u64 sum2, .slice va11 tt2.length vc11] 27)
  have hE : w.heap.size ≤ w11.heap.size := HB.out.size
  replace A := Lib.hid (upQ A.out b12)
  replace B := Lib.hid (upQ B.out b12)
  replace C := Lib.hid (upQ C.out b12)
  replace VA := Lib.hid (Tab.later VA.out b12)
  replace VB := Lib.hid (Tab.later VB.out b12)
  replace VC := Lib.hid (Tab.later VC.out b12)
  replace VE := Lib.hid (Tab.later VE.out b12)
  replace HB := Lib.hid (below2Z HB.out b12)
  clear b12
  replace E := Lib.hid E
  generalize w11.alloc (.cells #[.int .i64 k2, .int .i64 q2, .bool on2, .string ⟨c2.toArray⟩, .int .i64 sh2, .int .i64 pr2, .int .i64 si2, .string ⟨st2.toArray⟩, .int .u64 sum2, .slice va11 tt2.length vc11] 27) = w13 at A B C E VA VB VC VE HB ⊢
  generalize w11.heap.size = BE at E hE ⊢
  refine (rfrsame_eqF VA.out VB.out HQ1).mono ?_
  rintro e w14 ⟨rfl, b14⟩
  replace A := Lib.hid (upQ A.out b14)
  replace B := Lib.hid (upQ B.out b14)
  replace C := Lib.hid (upQ C.out b14)
  replace E := Lib.hid (upQ E.out b14)
  replace VA := Lib.hid (Tab.later VA.out b14)
  replace VB := Lib.hid (Tab.later VB.out b14)
  replace VC := Lib.hid (Tab.later VC.out b14)
  replace VE := Lib.hid (Tab.later VE.out b14)
  replace HB := Lib.hid (below2Z HB.out b14)
  clear b14
  obtain ⟨⟨Cc0, Cc1, Cc2, Cc3, Cc4, Cc5, Cc6, Cc7, Cc8, Cc9⟩, ⟨Cf0, Cf1, Cf2, Cf3, Cf4, Cf5, Cf6, Cf7, Cf8, Cf9⟩⟩ := blk10 C.out
  obtain ⟨⟨Ec0, Ec1, Ec2, Ec3, Ec4, Ec5, Ec6, Ec7, Ec8, Ec9⟩, ⟨Ef0, Ef1, Ef2, Ef3, Ef4, Ef5, Ef6, Ef7, Ef8, Ef9⟩⟩ := blk10 E.out
  go_wp2_with fail
  clear Cc0 Cc1 Cc2 Cc3 Cc4 Cc5 Cc6 Cc7 Cc8 Cc9 Cf0 Cf1 Cf2 Cf3 Cf4 Cf5 Cf6 Cf7 Cf8 Cf9 Ec0 Ec1 Ec2 Ec3 Ec4 Ec5 Ec6 Ec7 Ec8 Ec9 Ef0 Ef1 Ef2 Ef3 Ef4 Ef5 Ef6 Ef7 Ef8 Ef9
  refine (rfrsame_eqF VC.out VE.out HQ2).mono ?_
  rintro e w15 ⟨rfl, b15⟩
  replace A := Lib.hid (upQ A.out b15)
  replace B := Lib.hid (upQ B.out b15)
  replace C := Lib.hid (upQ C.out b15)
  replace E := Lib.hid (upQ E.out b15)
  replace VA := Lib.hid (Tab.later VA.out b15)
  replace VB := Lib.hid (Tab.later VB.out b15)
  replace VC := Lib.hid (Tab.later VC.out b15)
  replace VE := Lib.hid (Tab.later VE.out b15)
  replace HB := Lib.hid (below2Z HB.out b15)
  clear b15
  go_wp2_with fail
  refine (live6 _).mono ?_
  rintro e w16 ⟨rfl, b16⟩
  replace A := Lib.hid (upQ A.out b16)
  replace B := Lib.hid (upQ B.out b16)
  replace C := Lib.hid (upQ C.out b16)
  replace E := Lib.hid (upQ E.out b16)
  replace VA := Lib.hid (Tab.later VA.out b16)
  replace VB := Lib.hid (Tab.later VB.out b16)
  replace VC := Lib.hid (Tab.later VC.out b16)
  replace VE := Lib.hid (Tab.later VE.out b16)
  replace HB := Lib.hid (below2Z HB.out b16)
  clear b16
  go_wp2_with fail
  go_ret
  exact ⟨rfl, HB.out⟩

theorem walkFrameReads {w : World} (l : List UInt8) (_hl : l.length ≤ maxLen) :
    Calls Try.prog 4 #[.string ⟨l.toArray⟩] w fun e w' => e = .returned (.bool true) ∧ Below w.heap.size w w' := by
  by_cases h : 1500 < l.length
  · exact fwr_long l h
  · obtain ⟨⟨k1, q1, on1, c1, ⟨sh1, pr1, si1, st1⟩, sum1, tt1⟩, e1, h1⟩ : ∃ f e, frDec l = (f, e) := ⟨_, _, rfl⟩
    obtain ⟨⟨k2, q2, on2, c2, ⟨sh2, pr2, si2, st2⟩, sum2, tt2⟩, e2, h2⟩ : ∃ f e, frDec (cseal l) = (f, e) := ⟨_, _, rfl⟩
    exact fwr_short l (by omega) (Lib.hid h1) (Lib.hid h2)

end Go.Proofs.Ytohfhphiofobcaa

end

section

/-
  THE FRAME OF THE PROOF OF FrameReads: for every input the law returns true, and each argument reads behind the call as it read before. No condition.
-/
namespace Go.Proofs.Ytohfhphiofobcaa.frameReads
open Go.ChangeShapes Go.WideShapes Go.ChangeAt Go.RowKit
open Go.ChangeMaps (open_string shut_string)
set_option linter.unusedVariables false

theorem own : ownKnob Try.prog.godebug = none := by kernel_rfl
theorem laidOut : laidOutB Try.prog = true := by kernel_rfl

set_option maxRecDepth 100000 in
theorem lifted (os : Os) (started : os.Started) (H : Type) (enc : TypeId × Value → H) :
    ReturnsInHanded {} Try.checked os 4 .any (Rows.frameReadsSpec.pre6 enc Try.prog Try.f4 Rows.frameReadsRow.domain false) (Rows.frameReadsSpec.post enc Try.prog Try.f4 false true false false) := by
  refine returnsInHanded_of_change (C := Try.checked) own started (by kernel_rfl) Try.func4
    (ChangeSpec.witness6 (enc := enc) (C := Try.checked) false ⟨#[], #[.string ByteArray.empty], []⟩ 8 (by kernel_rfl) (by kernel_rfl) (by kernel_rfl) (by kernel_rfl)) ?_
  intro W base args ds gs before hval0 hW hcnd _
  have hval : ∀ (j : Nat) t v, Try.f4.params[j]? = some t → args[j]? = some v → Value.okWide Try.prog W .any base t v := hval0
  have hW' := hW
  obtain ⟨p, q, hA0, hV, rfl, hfz, hnd⟩ := hW
  have hA : DataW.TrodAll enc Try.prog W 0 (fun _ => true) true Try.f4.params.toList args.toList ds p := hA0
  rw [Try.params4] at hA hval
  obtain ⟨v0, vs0, d0, ds0, p0, q0, hargs, rfl, rfl, h0, r0⟩ := trodAll_cons hA
  obtain ⟨rfl, rfl, rfl⟩ := trodAll_nil r0
  obtain rfl : args = #[v0] := by cases args; simp_all
  obtain ⟨rfl, rfl⟩ := trodVars_none hV
  have k0 := h0
  have lt0 : ∀ x ∈ p0, x.block < W.heap.size := by obtain ⟨m, hm⟩ := k0; exact DataW.trod_lt m _ _ _ hm
  obtain ⟨s0, rfl, hd0, hp0, w0⟩ := open_string Try.underlying9 (hval 0 9 v0 rfl rfl) h0
  obtain ⟨a0, e0⟩ : ∃ l : List UInt8, s0 = ⟨l.toArray⟩ := ⟨s0.data.toList, by cases s0; simp⟩
  subst e0
  have w0 : a0.length ≤ maxLen := by rw [← size_bytes]; exact w0
  clear hA0 hval0
  refine (walkFrameReads (w := W) a0 w0).mono fun e W' ⟨he, bel⟩ => ?_
  subst he
  exact ⟨_, rfl, _, _, _, [], _, [], hW', trodAll_mk1 (shut_bool Try.underlying4 _), (trodAll_cons_mk (Below.trod laidOut (by kernel_rfl) (of_decide_eq_true (by kernel_rfl)) k0 bel lt0) trodAll_mk0), rfl, bel.frame _, fun h => by cases h⟩

theorem over : Rows.frameReadsRow.holds Try.pinned (OpenSpec.ofChange Rows.frameReadsSpec) :=
  OpenClaim.holds_of_wide 4 Try.f4 rfl rfl rfl rfl rfl rfl rfl ⟨rfl, rfl, rfl, rfl, rfl⟩ rfl rfl rfl rfl rfl (by kernel_rfl) Try.func4 (by kernel_rfl)
    (of_decide_eq_true (by kernel_rfl)) (by unfold Func.isWrapper; first | (rw [if_pos (by decide +kernel)]; kernel_rfl) | (rw [if_neg (by decide +kernel)]; exact ⟨rfl, rfl⟩))
    (fun os started H enc _ => lifted os started H enc)

/-- THE STATEMENT. -/
theorem proved : Rows.FrameReadsSaid := over
#print axioms proved
end Go.Proofs.Ytohfhphiofobcaa.frameReads

end
