/-
  THE PROOF OF FrameTables: for every input the law returns true, and each argument reads behind the call as it read before. No condition.
-/
import Derived.Test.YtohfhphiofobcaaS18
import Derived.Test.YtohfhphiofobcaaS24
import Derived.Test.YtohfhphiofobcaaS21
import Derived.Test.YtohfhphiofobcaaS25
import Derived.Test.YtohfhphiofobcaaS26
import Derived.Test.YtohfhphiofobcaaRows
import Derived.ProofKit
import Derived.OpenShut
import Derived.ShutString
import Derived.ChangeOld
import Derived.SliceStrings
import Derived.Lib.SmallJoins

section

/-
  THE WALK OF FrameTables.
-/
namespace Go.Proofs.Ytohfhphiofobcaa
open Go.RowKit

set_option maxHeartbeats 3200000 in
set_option maxRecDepth 100000 in
theorem fwt_1 {w : World} {v1 : Value} {t : List Row} (hv1 : Tab w v1 t) (q : Int) (HF : Hid (fewT t = false)) :
    Calls Try.prog 7 #[v1, .int .i64 q] w fun e w' => e = .returned (.bool true) ∧ Below w.heap.size w w' := by
  obtain ⟨va, ca, rfl, -⟩ := hv1.open'
  have VA := Lib.hid hv1
  clear hv1
  have HB := Lib.hid (Below.refl w.heap.size w)
  go_enter Try.func7, Try.ntmps7
  go_wp2_with fail
  refine (fewt_eq VA.out HF).mono ?_
  rintro e w' ⟨rfl, rfl⟩
  go_wp2_with fail
  refine (live6 _).mono ?_
  rintro e w1 ⟨rfl, b1⟩
  replace VA := Lib.hid (Tab.later VA.out b1)
  replace HB := Lib.hid (below2Z HB.out b1)
  clear b1
  go_wp2_with fail
  go_ret
  exact ⟨rfl, HB.out⟩

set_option maxHeartbeats 3200000 in
set_option maxRecDepth 100000 in
theorem fwt_2a {w : World} {v1 : Value} {t : List Row} (hv1 : Tab w v1 t) (q : Int) (HF : Hid (fewT t = true)) (HEA : Hid (frEnc ⟨3, q, false, [], ⟨0, 0, 0, []⟩, 0, t⟩ = ([], 1))) {u : List UInt8} (HP : Hid (diPut t = (u, false))) :
    Calls Try.prog 7 #[v1, .int .i64 q] w fun e w' => e = .returned (.bool true) ∧ Below w.heap.size w w' := by
  have HSA := Lib.hid (fewT_short HF.out)
  obtain ⟨va, ca, rfl, -⟩ := hv1.open'
  have VA := Lib.hid hv1
  clear hv1
  have HB := Lib.hid (Below.refl w.heap.size w)
  go_enter Try.func7, Try.ntmps7
  go_wp2_with fail
  refine (fewt_eq VA.out HF).mono ?_
  rintro e w' ⟨rfl, rfl⟩
  go_wp2_with fail
  refine (frenc_any VA.out HSA.out 3 q false [] 0 0 0 [] 0 (by decide) (by decide) (by decide) HEA).mono ?_
  rintro e w1 ⟨rfl, b1⟩
  replace VA := Lib.hid (Tab.later VA.out b1)
  replace HB := Lib.hid (below2Z HB.out b1)
  clear b1
  go_wp2_with fail
  refine (rdiput_eq VA.out HSA.out HP).mono ?_
  rintro e w2 ⟨rfl, b2⟩
  replace VA := Lib.hid (Tab.later VA.out b2)
  replace HB := Lib.hid (below2Z HB.out b2)
  clear b2
  go_wp2_with fail
  refine (live6 _).mono ?_
  rintro e w3 ⟨rfl, b3⟩
  replace VA := Lib.hid (Tab.later VA.out b3)
  replace HB := Lib.hid (below2Z HB.out b3)
  clear b3
  go_wp2_with fail
  go_ret
  exact ⟨rfl, HB.out⟩

set_option maxHeartbeats 3200000 in
set_option maxRecDepth 100000 in
theorem fwt_2b {w : World} {v1 : Value} {t : List Row} (hv1 : Tab w v1 t) (q : Int) (hq : q < 0) (HF : Hid (fewT t = true)) (HEA : Hid (frEnc ⟨3, q, false, [], ⟨0, 0, 0, []⟩, 0, t⟩ = ([], 1))) {u : List UInt8} (HP : Hid (diPut t = (u, true))) :
    Calls Try.prog 7 #[v1, .int .i64 q] w fun e w' => e = .returned (.bool true) ∧ Below w.heap.size w w' := by
  have HSA := Lib.hid (fewT_short HF.out)
  have g1 : decide (0 ≤ q) = false := by rw [decide_eq_false_iff_not]; omega
  clear hq
  obtain ⟨va, ca, rfl, -⟩ := hv1.open'
  have VA := Lib.hid hv1
  clear hv1
  have HB := Lib.hid (Below.refl w.heap.size w)
  go_enter Try.func7, Try.ntmps7
  go_wp2_with fail
  refine (fewt_eq VA.out HF).mono ?_
  rintro e w' ⟨rfl, rfl⟩
  go_wp2_with fail
  refine (frenc_any VA.out HSA.out 3 q false [] 0 0 0 [] 0 (by decide) (by decide) (by decide) HEA).mono ?_
  rintro e w1 ⟨rfl, b1⟩
  replace VA := Lib.hid (Tab.later VA.out b1)
  replace HB := Lib.hid (below2Z HB.out b1)
  clear b1
  go_wp2_with fail
  refine (rdiput_eq VA.out HSA.out HP).mono ?_
  rintro e w2 ⟨rfl, b2⟩
  replace VA := Lib.hid (Tab.later VA.out b2)
  replace HB := Lib.hid (below2Z HB.out b2)
  clear b2
  go_wp2_with fail
  refine (live6 _).mono ?_
  rintro e w3 ⟨rfl, b3⟩
  replace VA := Lib.hid (Tab.later VA.out b3)
  replace HB := Lib.hid (below2Z HB.out b3)
  clear b3
  go_wp2_with fail
  go_ret
  exact ⟨rfl, HB.out⟩

set_option maxHeartbeats 3200000 in
set_option maxRecDepth 100000 in
theorem fwt_2c {w : World} {v1 : Value} {t : List Row} (hv1 : Tab w v1 t) (q : Int) (hq0 : 0 ≤ q) (hq : 1099511627776 < q) (HF : Hid (fewT t = true)) (HEA : Hid (frEnc ⟨3, q, false, [], ⟨0, 0, 0, []⟩, 0, t⟩ = ([], 1))) {u : List UInt8} (HP : Hid (diPut t = (u, true))) :
    Calls Try.prog 7 #[v1, .int .i64 q] w fun e w' => e = .returned (.bool true) ∧ Below w.heap.size w w' := by
  have HSA := Lib.hid (fewT_short HF.out)
  have g1 : decide (0 ≤ q) = true := by rw [decide_eq_true_eq]; omega
  have g2 : decide (q ≤ 1099511627776) = false := by rw [decide_eq_false_iff_not]; omega
  clear hq hq0
  obtain ⟨va, ca, rfl, -⟩ := hv1.open'
  have VA := Lib.hid hv1
  clear hv1
  have HB := Lib.hid (Below.refl w.heap.size w)
  go_enter Try.func7, Try.ntmps7
  go_wp2_with fail
  refine (fewt_eq VA.out HF).mono ?_
  rintro e w' ⟨rfl, rfl⟩
  go_wp2_with fail
  refine (frenc_any VA.out HSA.out 3 q false [] 0 0 0 [] 0 (by decide) (by decide) (by decide) HEA).mono ?_
  rintro e w1 ⟨rfl, b1⟩
  replace VA := Lib.hid (Tab.later VA.out b1)
  replace HB := Lib.hid (below2Z HB.out b1)
  clear b1
  go_wp2_with fail
  refine (rdiput_eq VA.out HSA.out HP).mono ?_
  rintro e w2 ⟨rfl, b2⟩
  replace VA := Lib.hid (Tab.later VA.out b2)
  replace HB := Lib.hid (below2Z HB.out b2)
  clear b2
  go_wp2_with fail
  refine (live6 _).mono ?_
  rintro e w3 ⟨rfl, b3⟩
  replace VA := Lib.hid (Tab.later VA.out b3)
  replace HB := Lib.hid (below2Z HB.out b3)
  clear b3
  go_wp2_with fail
  go_ret
  exact ⟨rfl, HB.out⟩

set_option maxHeartbeats 3200000 in
set_option maxRecDepth 100000 in
theorem fwt_3 {w : World} {v1 : Value} {t : List Row} (hv1 : Tab w v1 t) (q : Int) (hq0 : 0 ≤ q) (hq1 : q ≤ 1099511627776) (HF : Hid (fewT t = true)) {l1 u r : List UInt8} (HL : Hid (l1.length ≤ 2000 ∧ r.length ≤ 2000)) (hul : u.length + 1 ≤ r.length) (HDR : Hid ((3 :: r : List UInt8).drop (r.length + 1 - u.length) = u)) (HEA : Hid (frEnc ⟨3, q, false, [], ⟨0, 0, 0, []⟩, 0, t⟩ = (l1, 0))) (HP : Hid (diPut t = (u, true))) (HO : Hid (copen l1 = (3 :: r, 0))) (HD : Hid (frDec l1 = (⟨3, q, false, [], ⟨0, 0, 0, []⟩, 0, t⟩, 0))) :
    Calls Try.prog 7 #[v1, .int .i64 q] w fun e w' => e = .returned (.bool true) ∧ Below w.heap.size w w' := by
  have HSA := Lib.hid (fewT_short HF.out)
  have g1 : decide (0 ≤ q) = true := by rw [decide_eq_true_eq]; omega
  have g2 : decide (q ≤ 1099511627776) = true := by rw [decide_eq_true_eq]; omega
  clear hq0 hq1
  have hl1 : l1.length ≤ 4294967296 := by have := HL.out; omega
  have tA : decide (((3 :: r : List UInt8).length : Int) < (u.length : Int) + 2) = false := by rw [decide_eq_false_iff_not]; simp only [List.length_cons]; omega
  have tAb : decide ((r.length : Int) + 1 < (u.length : Int) + 2) = false := by rw [decide_eq_false_iff_not]; omega
  have hszp : (⟨(3 :: r : List UInt8).toArray⟩ : ByteArray).size = r.length + 1 := by rw [size_bytes]; rfl
  have hszu : (⟨u.toArray⟩ : ByteArray).size = u.length := size_bytes u
  have hsl := fun w => run_slice_bytes_from (P := Try.prog) w 9 (3 :: r) (r.length + 1 - u.length) ((r.length : Int) + 1 - u.length) (by omega) Try.underlying9 (by simp only [List.length_cons]; omega)
  rw [HDR.out] at hsl
  have hix : (⟨(3 :: r : List UInt8).toArray⟩ : ByteArray)[0]'(by rw [hszp]; omega) = 3 := rfl
  have hnu : (u == u) = true := beq_self_eq_true u
  have hr32 : r.length ≤ 4294967296 := by have := HL.out; omega
  obtain ⟨va, ca, rfl, -⟩ := hv1.open'
  have VA := Lib.hid hv1
  clear hv1
  have HB := Lib.hid (Below.refl w.heap.size w)
  go_enter Try.func7, Try.ntmps7
  go_wp2_with fail
  refine (fewt_eq VA.out HF).mono ?_
  rintro e w' ⟨rfl, rfl⟩
  go_wp2_with fail
  refine (frenc_any VA.out HSA.out 3 q false [] 0 0 0 [] 0 (by decide) (by decide) (by decide) HEA).mono ?_
  rintro e w1 ⟨rfl, b1⟩
  replace VA := Lib.hid (Tab.later VA.out b1)
  replace HB := Lib.hid (below2Z HB.out b1)
  clear b1
  go_wp2_with fail
  refine (rdiput_eq VA.out HSA.out HP).mono ?_
  rintro e w2 ⟨rfl, b2⟩
  replace VA := Lib.hid (Tab.later VA.out b2)
  replace HB := Lib.hid (below2Z HB.out b2)
  clear b2
  go_wp2_with fail
  refine (ropen_eqF l1 hl1 HO _).mono ?_
  rintro e w3 ⟨rfl, b3⟩
  replace VA := Lib.hid (Tab.later VA.out b3)
  replace HB := Lib.hid (below2Z HB.out b3)
  clear b3
  go_wp2_with fail
  refine (frdec_any l1 hl1 HD _).mono ?_
  rintro e w4 ⟨v4, rfl, hov4, b4⟩
  replace VA := Lib.hid (Tab.later VA.out b4)
  replace HB := Lib.hid (below2Z HB.out b4)
  obtain ⟨va4, vc4, rfl, -⟩ := Tab.open' (OwnR.tab hov4)
  have VG := Lib.hid (OwnR.tab hov4)
  clear hov4
  clear b4
  go_wp2_with fail
  have b5 := bl_newZ w4 (.cells #[.int .i64 3, .int .i64 q, .bool false, .string ⟨([] : List UInt8).toArray⟩, .int .i64 0, .int .i64 0, .int .i64 0, .string ⟨([] : List UInt8).toArray⟩, .int .u64 0, .slice va4 t.length vc4] 27)
  have G := newQ w4 (.cells #[.int .i64 3, .int .i64 q, .bool false, .string ⟨([] : List UInt8).toArray⟩, .int .i64 0, .int .i64 0, .int .i64 0, .string ⟨([] : List UInt8).toArray⟩, .int .u64 0, .slice va4 t.length vc4] 27)
  have hG : w.heap.size ≤ w4.heap.size := HB.out.size
  replace VA := Lib.hid (Tab.later VA.out b5)
  replace VG := Lib.hid (Tab.later VG.out b5)
  replace HB := Lib.hid (below2Z HB.out b5)
  clear b5
  replace G := Lib.hid G
  generalize w4.alloc (.cells #[.int .i64 3, .int .i64 q, .bool false, .string ⟨([] : List UInt8).toArray⟩, .int .i64 0, .int .i64 0, .int .i64 0, .string ⟨([] : List UInt8).toArray⟩, .int .u64 0, .slice va4 t.length vc4] 27) = w6 at G VA VG HB ⊢
  generalize w4.heap.size = BG at G hG ⊢
  refine (tsame_eq VG.out VA.out (Lib.hid (tSame_iff.2 rfl))).mono ?_
  rintro e w7 ⟨rfl, b7⟩
  replace G := Lib.hid (upQ G.out b7)
  replace VA := Lib.hid (Tab.later VA.out b7)
  replace VG := Lib.hid (Tab.later VG.out b7)
  replace HB := Lib.hid (below2Z HB.out b7)
  clear b7
  obtain ⟨⟨Gc0, Gc1, Gc2, Gc3, Gc4, Gc5, Gc6, Gc7, Gc8, Gc9⟩, ⟨Gf0, Gf1, Gf2, Gf3, Gf4, Gf5, Gf6, Gf7, Gf8, Gf9⟩⟩ := blk10 G.out
  go_wp2_with fail
  clear Gc0 Gc1 Gc2 Gc3 Gc4 Gc5 Gc6 Gc7 Gc8 Gc9 Gf0 Gf1 Gf2 Gf3 Gf4 Gf5 Gf6 Gf7 Gf8 Gf9
  refine (live6 _).mono ?_
  rintro e w8 ⟨rfl, b8⟩
  replace G := Lib.hid (upQ G.out b8)
  replace VA := Lib.hid (Tab.later VA.out b8)
  replace VG := Lib.hid (Tab.later VG.out b8)
  replace HB := Lib.hid (below2Z HB.out b8)
  clear b8
  go_wp2_with fail
  go_ret
  exact ⟨rfl, HB.out⟩

theorem fwt_may {q : Int} {t : List Row} : frMay ⟨3, q, false, [], ⟨0, 0, 0, []⟩, 0, t⟩ = true ↔ (0 ≤ q ∧ q ≤ 1099511627776) ∧ diMay t = true := by
  unfold frMay frRest
  simp [Val.zero, vSame]

theorem walkFrameTables {w : World} {v1 : Value} {t : List Row} (hv1 : Tab w v1 t) (q : Int) (_ : (Lit.int .i64 q).wf = true) :
    Calls Try.prog 7 #[v1, .int .i64 q] w fun e w' => e = .returned (.bool true) ∧ Below w.heap.size w w' := by
  cases hf : fewT t with
  | false => exact fwt_1 hv1 q (Lib.hid hf)
  | true =>
  cases hm : frMay ⟨3, q, false, [], ⟨0, 0, 0, []⟩, 0, t⟩ with
  | false =>
    have he := enc_notP hm
    cases hd : diMay t with
    | false => exact fwt_2a hv1 q (Lib.hid hf) (Lib.hid he) (Lib.hid (show diPut t = ([], false) by unfold diPut; rw [if_neg (by rw [hd]; decide)]))
    | true =>
      have hp : diPut t = (diBytes t, true) := by unfold diPut; rw [if_pos hd]
      by_cases h0 : q < 0
      · exact fwt_2b hv1 q h0 (Lib.hid hf) (Lib.hid he) (Lib.hid hp)
      · by_cases h1 : 1099511627776 < q
        · exact fwt_2c hv1 q (by omega) h1 (Lib.hid hf) (Lib.hid he) (Lib.hid hp)
        · have := (fwt_may (q := q) (t := t)).2 ⟨⟨by omega, by omega⟩, hd⟩
          rw [hm] at this
          cases this
  | true =>
    have he := enc_mayP hm
    obtain ⟨⟨h0, h1⟩, hd⟩ := fwt_may.1 hm
    have hp : diPut t = (diBytes t, true) := by unfold diPut; rw [if_pos hd]
    have hl := frPlain_len hm
    have hpl : frPlain ⟨3, q, false, [], ⟨0, 0, 0, []⟩, 0, t⟩ = 3 :: (vput q.toNat ++ diBytes t) := by
      unfold frPlain frBody
      simp [hp]
      decide
    have hv := vput_len_pos q.toNat
    have hdec := (frDec_plain hm (by show 0 < 18446744073709551616; decide) rfl).1
    have hop := copen_seal (frPlain ⟨3, q, false, [], ⟨0, 0, 0, []⟩, 0, t⟩)
    have hsl := seal_lenP (frPlain ⟨3, q, false, [], ⟨0, 0, 0, []⟩, 0, t⟩)
    rw [hpl] at he hl hdec hop hsl
    simp only [List.length_cons, List.length_append] at hl hsl
    refine fwt_3 hv1 q h0 h1 (Lib.hid hf) (r := vput q.toNat ++ diBytes t) (u := diBytes t) (Lib.hid ⟨by rw [hsl]; omega, by rw [List.length_append]; omega⟩) (by rw [List.length_append]; omega) (Lib.hid ?_) (Lib.hid he) (Lib.hid hp) (Lib.hid hop) (Lib.hid hdec)
    rw [List.length_append, show (vput q.toNat).length + (diBytes t).length + 1 - (diBytes t).length = (vput q.toNat).length + 1 by omega, List.drop_succ_cons, List.drop_left]

end Go.Proofs.Ytohfhphiofobcaa

end

section

/-
  THE FRAME OF THE PROOF OF FrameTables: for every input the law returns true, and each argument reads behind the call as it read before. No condition.
-/
namespace Go.Proofs.Ytohfhphiofobcaa.frameTables
open Go.ChangeShapes Go.WideShapes Go.ChangeAt Go.RowKit
open Go.ChangeMaps (open_string shut_string)
set_option linter.unusedVariables false

theorem own : ownKnob Try.prog.godebug = none := by kernel_rfl
theorem laidOut : laidOutB Try.prog = true := by kernel_rfl

set_option maxRecDepth 100000 in
theorem lifted (os : Os) (started : os.Started) (H : Type) (enc : TypeId × Value → H) :
    ReturnsInHanded {} Try.checked os 7 .any (Rows.frameTablesSpec.pre6 enc Try.prog Try.f7 Rows.frameTablesRow.domain false) (Rows.frameTablesSpec.post enc Try.prog Try.f7 false true false false) := by
  refine returnsInHanded_of_change (C := Try.checked) own started (by kernel_rfl) Try.func7
    (ChangeSpec.witness6 (enc := enc) (C := Try.checked) false ⟨#[], #[.slice none 0 0, .int .i64 0], []⟩ 8 (by kernel_rfl) (by kernel_rfl) (by kernel_rfl) (by kernel_rfl)) ?_
  intro W base args ds gs before hval0 hW hcnd _
  have hval : ∀ (j : Nat) t v, Try.f7.params[j]? = some t → args[j]? = some v → Value.okWide Try.prog W .any base t v := hval0
  have hW' := hW
  obtain ⟨p, q, hA0, hV, rfl, hfz, hnd⟩ := hW
  have hA : DataW.TrodAll enc Try.prog W 0 (fun _ => true) true Try.f7.params.toList args.toList ds p := hA0
  rw [Try.params7] at hA hval
  obtain ⟨v0, vs0, d0, ds0, p0, q0, hargs, rfl, rfl, h0, r0⟩ := trodAll_cons hA
  obtain ⟨v1, vs1, d1, ds1, p1, q1, rfl, rfl, rfl, h1, r1⟩ := trodAll_cons r0
  obtain ⟨rfl, rfl, rfl⟩ := trodAll_nil r1
  obtain rfl : args = #[v0, v1] := by cases args; simp_all
  obtain ⟨rfl, rfl⟩ := trodVars_none hV
  have k0 := h0
  have lt0 : ∀ x ∈ p0, x.block < W.heap.size := by obtain ⟨m, hm⟩ := k0; exact DataW.trod_lt m _ _ _ hm
  obtain ⟨l0, w0, f0⟩ := open_tab (hval 0 25 v0 rfl rfl) h0
  have k1 := h1
  have lt1 : ∀ x ∈ p1, x.block < W.heap.size := by obtain ⟨m, hm⟩ := k1; exact DataW.trod_lt m _ _ _ hm
  obtain ⟨a1, rfl, hd1, hp1, w1⟩ := open_int Try.underlying3 (hval 1 3 v1 rfl rfl) h1
  clear hA0 hval0
  refine (walkFrameTables (w := W) w0 a1 w1).mono fun e W' ⟨he, bel⟩ => ?_
  subst he
  exact ⟨_, rfl, _, _, _, [], _, [], hW', trodAll_mk1 (shut_bool Try.underlying4 _), (trodAll_cons_mk (Below.trod laidOut (by kernel_rfl) (of_decide_eq_true (by kernel_rfl)) k0 bel lt0) (trodAll_cons_mk (Below.trod laidOut (by kernel_rfl) (of_decide_eq_true (by kernel_rfl)) k1 bel lt1) trodAll_mk0)), rfl, bel.frame _, fun h => by cases h⟩

theorem over : Rows.frameTablesRow.holds Try.pinned (OpenSpec.ofChange Rows.frameTablesSpec) :=
  OpenClaim.holds_of_wide 7 Try.f7 rfl rfl rfl rfl rfl rfl rfl ⟨rfl, rfl, rfl, rfl, rfl⟩ rfl rfl rfl rfl rfl (by kernel_rfl) Try.func7 (by kernel_rfl)
    (of_decide_eq_true (by kernel_rfl)) (by unfold Func.isWrapper; first | (rw [if_pos (by decide +kernel)]; kernel_rfl) | (rw [if_neg (by decide +kernel)]; exact ⟨rfl, rfl⟩))
    (fun os started H enc _ => lifted os started H enc)

/-- THE STATEMENT. -/
theorem proved : Rows.FrameTablesSaid := over
#print axioms proved
end Go.Proofs.Ytohfhphiofobcaa.frameTables

end
