/-
  THE PROOF OF LinkEmits: for every input the law returns true, and each argument reads behind the call as it read before. No condition.
-/
import Derived.Test.YtndicdomdndjaaaGreatE09
import Derived.Test.YtndicdomdndjaaaGreatE08
import Derived.Test.YtndicdomdndjaaaGreatE04
import Derived.Test.YtndicdomdndjaaaGreatRows
import Derived.ProofKit
import Derived.OpenShut
import Derived.ShutString
import Derived.ChangeOld
import Derived.SliceStrings
import Derived.Lib.SmallJoins

section

/-
  THE WALK OF LinkEmits.
-/
namespace Go.Proofs.YtndicdomdndjaaaGreat
open Go.RowKit

set_option maxHeartbeats 12800000 in
set_option maxRecDepth 1000000 in
theorem lem {w : World} {v vt : Value} {ql : List Chg} {view : List Row} (hv : Chgs w v ql) (ht : Tab w vt view) (ca cb cd ce seq tok at' dg : Int) (la sn : Bool) (now : Int) :
    Calls Tryz.prog 4 #[.agg #[.int .i64 ca, .int .i64 cb, .int .i64 cd, .int .i64 ce], .agg #[.int .i64 seq, v, .bool la, .int .i64 tok, .int .i64 at', .bool sn, .int .i64 dg], .agg #[vt, .int .i64 now]] w fun e w' => e = .returned (.bool true) ∧ Below w.heap.size w w' := by
  obtain ⟨qn, hqn⟩ : ∃ n, ql.length = n := ⟨_, rfl⟩
  obtain ⟨ao, cap, rfl⟩ := chgs_shape hv hqn
  obtain ⟨vn, hvn⟩ : ∃ n, view.length = n := ⟨_, rfl⟩
  obtain ⟨ta, tc, rfl⟩ := tab_shapeL ht hvn
  obtain ⟨f1, hf1⟩ : ∃ r, fewC ql 30 = r := ⟨_, rfl⟩
  obtain ⟨f2, hf2⟩ : ∃ r, fewT view = r := ⟨_, rfl⟩
  have F1 := Lib.hid hf1
  have F2 := Lib.hid hf2
  clear hf1 hf2
  have b0 := bl_newZ w (.cells #[.int .i64 ca, .int .i64 cb, .int .i64 cd, .int .i64 ce] 23)
  have b1 := bl_newZ (w.alloc (.cells #[.int .i64 ca, .int .i64 cb, .int .i64 cd, .int .i64 ce] 23)) (.cells #[.int .i64 seq, .slice ao qn cap, .bool la, .int .i64 tok, .int .i64 at', .bool sn, .int .i64 dg] 30)
  have b2 := bl_newZ ((w.alloc (.cells #[.int .i64 ca, .int .i64 cb, .int .i64 cd, .int .i64 ce] 23)).alloc (.cells #[.int .i64 seq, .slice ao qn cap, .bool la, .int .i64 tok, .int .i64 at', .bool sn, .int .i64 dg] 30)) (.cells #[.slice ta vn tc, .int .i64 now] 48)
  have HB := Lib.hid (below2Z (below2Z b0 b1) b2)
  have V := Lib.hid (((hv.later b0).later b1).later b2)
  have T := Lib.hid (((ht.later b0).later b1).later b2)
  have CB := newQ w (.cells #[.int .i64 ca, .int .i64 cb, .int .i64 cd, .int .i64 ce] 23)
  replace CB := upQ CB b1
  replace CB := upQ CB b2
  replace CB := Lib.hid CB
  have LB := newQ (w.alloc (.cells #[.int .i64 ca, .int .i64 cb, .int .i64 cd, .int .i64 ce] 23)) (.cells #[.int .i64 seq, .slice ao qn cap, .bool la, .int .i64 tok, .int .i64 at', .bool sn, .int .i64 dg] 30)
  rw [World.size_alloc] at LB
  replace LB := upQ LB b2
  replace LB := Lib.hid LB
  have WB := newQ ((w.alloc (.cells #[.int .i64 ca, .int .i64 cb, .int .i64 cd, .int .i64 ce] 23)).alloc (.cells #[.int .i64 seq, .slice ao qn cap, .bool la, .int .i64 tok, .int .i64 at', .bool sn, .int .i64 dg] 30)) (.cells #[.slice ta vn tc, .int .i64 now] 48)
  rw [World.size_alloc, World.size_alloc] at WB
  replace WB := Lib.hid WB
  clear b0 b1 b2
  clear hv hqn ht hvn
  go_enter Tryz.func4, Tryz.ntmps4
  go_upto_region 1 with fail
  generalize ((w.alloc (.cells #[.int .i64 ca, .int .i64 cb, .int .i64 cd, .int .i64 ce] 23)).alloc (.cells #[.int .i64 seq, .slice ao qn cap, .bool la, .int .i64 tok, .int .i64 at', .bool sn, .int .i64 dg] 30)).alloc (.cells #[.slice ta vn tc, .int .i64 now] 48) = w4 at CB LB WB V T HB ⊢
  obtain ⟨⟨LBc0, LBc1, LBc2, LBc3, LBc4, LBc5, LBc6⟩, ⟨LBf0, LBf1, LBf2, LBf3, LBf4, LBf5, LBf6⟩⟩ := blk7 LB.out
  go_wp2_with fail
  clear LBc0 LBc1 LBc2 LBc3 LBc4 LBc5 LBc6 LBf0 LBf1 LBf2 LBf3 LBf4 LBf5 LBf6
  refine (rlfew_any V.out la sn seq tok at' dg F1).mono ?_
  rintro e w5 ⟨rfl, b5⟩
  replace CB := Lib.hid (upQ CB.out b5)
  replace LB := Lib.hid (upQ LB.out b5)
  replace WB := Lib.hid (upQ WB.out b5)
  replace V := Lib.hid (V.out.later b5)
  replace T := Lib.hid (T.out.later b5)
  replace HB := Lib.hid (below2Z HB.out b5)
  clear b5
  cases f1 with
  | false =>
    go_wp2_with fail
    refine (live18 _).mono ?_
    rintro e w506 ⟨rfl, b506⟩
    replace HB := Lib.hid (below2Z HB.out b506)
    clear b506
    go_wp2_with fail
    go_ret
    exact ⟨rfl, HB.out⟩
  | true =>
    have HS := Lib.hid (fewC_short F1.out)
    have hql := (fewC_get F1.out).1
    have hq30 : ql.length ≤ 30 := by omega
    clear hql F1
    obtain ⟨⟨WBc0, WBc1⟩, ⟨WBf0, WBf1⟩⟩ := blk2 WB.out
    go_wp2_with fail
    clear WBc0 WBc1 WBf0 WBf1
    refine (fewt_eqL T.out F2).mono ?_
    rintro e w6 ⟨rfl, b6⟩
    replace CB := Lib.hid (upQ CB.out b6)
    replace LB := Lib.hid (upQ LB.out b6)
    replace WB := Lib.hid (upQ WB.out b6)
    replace V := Lib.hid (V.out.later b6)
    replace T := Lib.hid (T.out.later b6)
    replace HB := Lib.hid (below2Z HB.out b6)
    clear b6
    cases f2 with
    | false =>
      go_wp2_with fail
      refine (live18 _).mono ?_
      rintro e w507 ⟨rfl, b507⟩
      replace HB := Lib.hid (below2Z HB.out b507)
      clear b507
      go_wp2_with fail
      go_ret
      exact ⟨rfl, HB.out⟩
    | true =>
      have HH := Lib.hid (fewT_short F2.out)
      clear F2
      obtain ⟨⟨⟨ms, ⟨mq, ml⟩, ⟨mt, ma⟩, mn, md⟩, fs⟩, hE⟩ : ∃ p, lnEmit ⟨ca, cb, cd, ce⟩ ⟨seq, ⟨ql, la⟩, ⟨tok, at'⟩, sn, dg⟩ view now = p := ⟨_, rfl⟩
      have HE := Lib.hid hE
      have FEW := Lib.hid (emit_few hE)
      clear hE
      obtain ⟨⟨CBc0, CBc1, CBc2, CBc3⟩, ⟨CBf0, CBf1, CBf2, CBf3⟩⟩ := blk4 CB.out
      obtain ⟨⟨LBc0, LBc1, LBc2, LBc3, LBc4, LBc5, LBc6⟩, ⟨LBf0, LBf1, LBf2, LBf3, LBf4, LBf5, LBf6⟩⟩ := blk7 LB.out
      obtain ⟨⟨WBc0, WBc1⟩, ⟨WBf0, WBf1⟩⟩ := blk2 WB.out
      go_wp2_with fail
      clear CBc0 CBc1 CBc2 CBc3 CBf0 CBf1 CBf2 CBf3 LBc0 LBc1 LBc2 LBc3 LBc4 LBc5 LBc6 LBf0 LBf1 LBf2 LBf3 LBf4 LBf5 LBf6 WBc0 WBc1 WBf0 WBf1
      refine (lemit_eq V.out T.out HS.out (by omega) HH.out ca cb cd ce seq tok at' dg now la sn HE).mono ?_
      rintro e w7 ⟨uM, fvM, psM, rfl, hM, kM, mM, b7⟩
      replace CB := Lib.hid (upQ CB.out b7)
      replace LB := Lib.hid (upQ LB.out b7)
      replace WB := Lib.hid (upQ WB.out b7)
      replace V := Lib.hid (V.out.later b7)
      replace T := Lib.hid (T.out.later b7)
      replace HB := Lib.hid (below2Z HB.out b7)
      obtain ⟨nM, hnM⟩ : ∃ n, mq.length = n := ⟨_, rfl⟩
      obtain ⟨uMa, uMc, rfl⟩ := chgs_shape hM hnM
      have QM := Lib.hid hM
      have FCM : Hid (FrC _ fvM fs) := Lib.hid (kf_cells kM mM)
      clear hM hnM kM mM
      clear b7
      have b8 := bl_newZ w7 (.cells #[.int .i64 ms, .slice uMa nM uMc, .bool ml, .int .i64 mt, .int .i64 ma, .bool mn, .int .i64 md] 30)
      have L7 := newQ w7 (.cells #[.int .i64 ms, .slice uMa nM uMc, .bool ml, .int .i64 mt, .int .i64 ma, .bool mn, .int .i64 md] 30)
      have hL7 : w.heap.size ≤ w7.heap.size := HB.out.size
      replace CB := Lib.hid (upQ CB.out b8)
      replace LB := Lib.hid (upQ LB.out b8)
      replace WB := Lib.hid (upQ WB.out b8)
      replace V := Lib.hid (V.out.later b8)
      replace T := Lib.hid (T.out.later b8)
      replace QM := Lib.hid (Chgs.later QM.out b8)
      replace FCM := Lib.hid (FrC.later FCM.out b8)
      replace HB := Lib.hid (below2Z HB.out b8)
      clear b8
      replace L7 := Lib.hid L7
      go_upto_region 4 with fail
      generalize w7.alloc (.cells #[.int .i64 ms, .slice uMa nM uMc, .bool ml, .int .i64 mt, .int .i64 ma, .bool mn, .int .i64 md] 30) = w9 at CB LB WB L7 V T QM FCM HB ⊢
      obtain ⟨⟨CBc0, CBc1, CBc2, CBc3⟩, ⟨CBf0, CBf1, CBf2, CBf3⟩⟩ := blk4 CB.out
      obtain ⟨⟨LBc0, LBc1, LBc2, LBc3, LBc4, LBc5, LBc6⟩, ⟨LBf0, LBf1, LBf2, LBf3, LBf4, LBf5, LBf6⟩⟩ := blk7 LB.out
      obtain ⟨⟨WBc0, WBc1⟩, ⟨WBf0, WBf1⟩⟩ := blk2 WB.out
      go_wp2_with fail
      clear CBc0 CBc1 CBc2 CBc3 CBf0 CBf1 CBf2 CBf3 LBc0 LBc1 LBc2 LBc3 LBc4 LBc5 LBc6 LBf0 LBf1 LBf2 LBf3 LBf4 LBf5 LBf6 WBc0 WBc1 WBf0 WBf1
      refine (rlemit_eq V.out T.out HS.out (by omega) HH.out ca cb cd ce seq tok at' dg now la sn HE).mono ?_
      rintro e w10 ⟨uN, fvN, psN, rfl, hN, kN, mN, b10⟩
      replace CB := Lib.hid (upQ CB.out b10)
      replace LB := Lib.hid (upQ LB.out b10)
      replace WB := Lib.hid (upQ WB.out b10)
      replace L7 := Lib.hid (upQ L7.out b10)
      replace V := Lib.hid (V.out.later b10)
      replace T := Lib.hid (T.out.later b10)
      replace QM := Lib.hid (Chgs.later QM.out b10)
      replace FCM := Lib.hid (FrC.later FCM.out b10)
      replace HB := Lib.hid (below2Z HB.out b10)
      obtain ⟨nN, hnN⟩ : ∃ n, mq.length = n := ⟨_, rfl⟩
      obtain ⟨uNa, uNc, rfl⟩ := chgs_shape hN hnN
      have QN := Lib.hid hN
      have FCN : Hid (FrC _ fvN fs) := Lib.hid (frc_kg kN b10 mN)
      clear hN hnN kN mN
      clear b10
      have b11 := bl_newZ w10 (.cells #[.int .i64 ms, .slice uNa nN uNc, .bool ml, .int .i64 mt, .int .i64 ma, .bool mn, .int .i64 md] 30)
      have L9 := newQ w10 (.cells #[.int .i64 ms, .slice uNa nN uNc, .bool ml, .int .i64 mt, .int .i64 ma, .bool mn, .int .i64 md] 30)
      have hL9 : w.heap.size ≤ w10.heap.size := HB.out.size
      replace CB := Lib.hid (upQ CB.out b11)
      replace LB := Lib.hid (upQ LB.out b11)
      replace WB := Lib.hid (upQ WB.out b11)
      replace L7 := Lib.hid (upQ L7.out b11)
      replace V := Lib.hid (V.out.later b11)
      replace T := Lib.hid (T.out.later b11)
      replace QM := Lib.hid (Chgs.later QM.out b11)
      replace FCM := Lib.hid (FrC.later FCM.out b11)
      replace QN := Lib.hid (Chgs.later QN.out b11)
      replace FCN := Lib.hid (FrC.later FCN.out b11)
      replace HB := Lib.hid (below2Z HB.out b11)
      clear b11
      replace L9 := Lib.hid L9
      go_upto_region 5 with fail
      generalize w10.alloc (.cells #[.int .i64 ms, .slice uNa nN uNc, .bool ml, .int .i64 mt, .int .i64 ma, .bool mn, .int .i64 md] 30) = w12 at CB LB WB L7 L9 V T QM FCM QN FCN HB ⊢
      clear HE HS HH
      clear CB LB WB V T
      obtain ⟨⟨L7c0, L7c1, L7c2, L7c3, L7c4, L7c5, L7c6⟩, ⟨L7f0, L7f1, L7f2, L7f3, L7f4, L7f5, L7f6⟩⟩ := blk7 L7.out
      obtain ⟨⟨L9c0, L9c1, L9c2, L9c3, L9c4, L9c5, L9c6⟩, ⟨L9f0, L9f1, L9f2, L9f3, L9f4, L9f5, L9f6⟩⟩ := blk7 L9.out
      go_wp2_with fail
      clear L7c0 L7c1 L7c2 L7c3 L7c4 L7c5 L7c6 L7f0 L7f1 L7f2 L7f3 L7f4 L7f5 L7f6 L9c0 L9c1 L9c2 L9c3 L9c4 L9c5 L9c6 L9f0 L9f1 L9f2 L9f3 L9f4 L9f5 L9f6
      refine (rlsame_yes QM.out QN.out ml mn ms mt ma md).mono ?_
      rintro e w13 ⟨rfl, b13⟩
      replace L7 := Lib.hid (upQ L7.out b13)
      replace L9 := Lib.hid (upQ L9.out b13)
      replace QM := Lib.hid (Chgs.later QM.out b13)
      replace FCM := Lib.hid (FrC.later FCM.out b13)
      replace QN := Lib.hid (Chgs.later QN.out b13)
      replace FCN := Lib.hid (FrC.later FCN.out b13)
      replace HB := Lib.hid (below2Z HB.out b13)
      clear b13
      clear L7 L9 QM QN
      go_wp2_with fail
      refine (rlframes_yes FCM.out FCN.out FEW.out).mono ?_
      rintro e w14 ⟨rfl, b14⟩
      replace FCM := Lib.hid (FrC.later FCM.out b14)
      replace FCN := Lib.hid (FrC.later FCN.out b14)
      replace HB := Lib.hid (below2Z HB.out b14)
      clear b14
      clear FCM FCN
      go_wp2_with fail
      refine (live18 _).mono ?_
      rintro e w15 ⟨rfl, b15⟩
      replace HB := Lib.hid (below2Z HB.out b15)
      clear b15
      go_wp2_with fail
      go_ret
      exact ⟨rfl, HB.out⟩

theorem walkLinkEmits {w : World} (c : Cfg) (_ : CfgFit c) (seq : Int) (v : Value) (la : Bool) (tok at' : Int) (sn : Bool) (dg : Int) (_ : (Lit.int .i64 seq).wf = true) (hv : ∃ t : List Chg, Chgs w v t) (_ : (Lit.int .i64 tok).wf = true) (_ : (Lit.int .i64 at').wf = true) (_ : (Lit.int .i64 dg).wf = true) (vt : Value) (now : Int) (ht : ∃ t : List Row, Tab w vt t) (_ : (Lit.int .i64 now).wf = true) :
    Calls Tryz.prog 4 #[.agg #[.int .i64 c.room, .int .i64 c.burst, .int .i64 c.rate, .int .i64 c.per], .agg #[.int .i64 seq, v, .bool la, .int .i64 tok, .int .i64 at', .bool sn, .int .i64 dg], .agg #[vt, .int .i64 now]] w fun e w' => e = .returned (.bool true) ∧ Below w.heap.size w w' := by
  obtain ⟨ql, hq⟩ := hv
  obtain ⟨view, hw⟩ := ht
  exact lem hq hw c.room c.burst c.rate c.per seq tok at' dg la sn now

end Go.Proofs.YtndicdomdndjaaaGreat

end

section

/-
  THE FRAME OF THE PROOF OF LinkEmits: for every input the law returns true, and each argument reads behind the call as it read before. No condition.
-/
namespace Go.Proofs.YtndicdomdndjaaaGreat.linkEmits
open Go.ChangeShapes Go.WideShapes Go.ChangeAt Go.RowKit
open Go.ChangeMaps (open_string shut_string)
set_option linter.unusedVariables false

theorem own : ownKnob Tryz.prog.godebug = none := by kernel_rfl
theorem laidOut : laidOutB Tryz.prog = true := by kernel_rfl

set_option maxRecDepth 100000 in
theorem lifted (os : Os) (started : os.Started) (H : Type) (enc : TypeId × Value → H) :
    ReturnsInHanded {} Tryz.checked os 4 .any (Rows.linkEmitsSpec.pre6 enc Tryz.prog Tryz.f4 Rows.linkEmitsRow.domain false) (Rows.linkEmitsSpec.post enc Tryz.prog Tryz.f4 false true false false) := by
  refine returnsInHanded_of_change (C := Tryz.checked) own started (by kernel_rfl) Tryz.func4
    (ChangeSpec.witness6 (enc := enc) (C := Tryz.checked) false ⟨#[], #[.agg #[.int .i64 0, .int .i64 0, .int .i64 0, .int .i64 0], .agg #[.int .i64 0, .slice none 0 0, .bool false, .int .i64 0, .int .i64 0, .bool false, .int .i64 0], .agg #[.slice none 0 0, .int .i64 0]], []⟩ 8 (by kernel_rfl) (by kernel_rfl) (by kernel_rfl) (by kernel_rfl)) ?_
  intro W base args ds gs before hval0 hW hcnd _
  have hval : ∀ (j : Nat) t v, Tryz.f4.params[j]? = some t → args[j]? = some v → Value.okWide Tryz.prog W .any base t v := hval0
  have hW' := hW
  obtain ⟨p, q, hA0, hV, rfl, hfz, hnd⟩ := hW
  have hA : DataW.TrodAll enc Tryz.prog W 0 (fun _ => true) true Tryz.f4.params.toList args.toList ds p := hA0
  rw [Tryz.params4] at hA hval
  obtain ⟨v0, vs0, d0, ds0, p0, q0, hargs, rfl, rfl, h0, r0⟩ := trodAll_cons hA
  obtain ⟨v1, vs1, d1, ds1, p1, q1, rfl, rfl, rfl, h1, r1⟩ := trodAll_cons r0
  obtain ⟨v2, vs2, d2, ds2, p2, q2, rfl, rfl, rfl, h2, r2⟩ := trodAll_cons r1
  obtain ⟨rfl, rfl, rfl⟩ := trodAll_nil r2
  obtain rfl : args = #[v0, v1, v2] := by cases args; simp_all
  obtain ⟨rfl, rfl⟩ := trodVars_none hV
  have k0 := h0
  have lt0 : ∀ x ∈ p0, x.block < W.heap.size := by obtain ⟨m, hm⟩ := k0; exact DataW.trod_lt m _ _ _ hm
  obtain ⟨a0, rfl, w0⟩ := open_cfg (hval 0 23 v0 rfl rfl) h0
  have k1 := h1
  have lt1 : ∀ x ∈ p1, x.block < W.heap.size := by obtain ⟨m, hm⟩ := k1; exact DataW.trod_lt m _ _ _ hm
  obtain ⟨g1_0, g1_1, g1_2, g1_3, g1_4, g1_5, g1_6, rfl, y1_0, y1_1, y1_2, y1_3, y1_4⟩ := open_lnk (hval 1 30 v1 rfl rfl) h1
  have k2 := h2
  have lt2 : ∀ x ∈ p2, x.block < W.heap.size := by obtain ⟨m, hm⟩ := k2; exact DataW.trod_lt m _ _ _ hm
  obtain ⟨g2_0, g2_1, rfl, y2_0, y2_1⟩ := open_lview (hval 2 48 v2 rfl rfl) h2
  clear hA0 hval0
  refine (walkLinkEmits (w := W) a0 w0 g1_0 g1_1 g1_2 g1_3 g1_4 g1_5 g1_6 y1_0 y1_1 y1_2 y1_3 y1_4 g2_0 g2_1 y2_0 y2_1).mono fun e W' ⟨he, bel⟩ => ?_
  subst he
  exact ⟨_, rfl, _, _, _, [], _, [], hW', trodAll_mk1 (shut_bool Tryz.underlying4 _), (trodAll_cons_mk (Below.trod laidOut (by kernel_rfl) (of_decide_eq_true (by kernel_rfl)) k0 bel lt0) (trodAll_cons_mk (Below.trod laidOut (by kernel_rfl) (of_decide_eq_true (by kernel_rfl)) k1 bel lt1) (trodAll_cons_mk (Below.trod laidOut (by kernel_rfl) (of_decide_eq_true (by kernel_rfl)) k2 bel lt2) trodAll_mk0))), rfl, bel.frame _, fun h => by cases h⟩

theorem over : Rows.linkEmitsRow.holds Tryz.pinned (OpenSpec.ofChange Rows.linkEmitsSpec) :=
  OpenClaim.holds_of_wide 4 Tryz.f4 rfl rfl rfl rfl rfl rfl rfl ⟨rfl, rfl, rfl, rfl, rfl⟩ rfl rfl rfl rfl rfl (by kernel_rfl) Tryz.func4 (by kernel_rfl)
    (of_decide_eq_true (by kernel_rfl)) (by unfold Func.isWrapper; first | (rw [if_pos (by decide +kernel)]; kernel_rfl) | (rw [if_neg (by decide +kernel)]; exact ⟨rfl, rfl⟩))
    (fun os started H enc _ => lifted os started H enc)

/-- THE STATEMENT. -/
theorem proved : Rows.LinkEmitsSaid := over
#print axioms proved
end Go.Proofs.YtndicdomdndjaaaGreat.linkEmits

end
