/-
  THE PROOF OF LinkTwice: for every input the law returns true, and each argument reads behind the call as it read before. No condition.
-/
import Derived.Test.YtndicdomdndjaaaGreatL10
import Derived.Test.YtndicdomdndjaaaGreatL04
import Derived.Test.YtndicdomdndjaaaGreatRows
import Derived.ProofKit
import Derived.OpenShut
import Derived.ShutString
import Derived.ChangeOld
import Derived.SliceStrings
import Derived.Lib.SmallJoins

section

/-
  THE WALK OF LinkTwice.
-/
namespace Go.Proofs.YtndicdomdndjaaaGreat
open Go.RowKit

set_option maxHeartbeats 12800000 in
set_option maxRecDepth 1000000 in
theorem ltw {w : World} {v vt : Value} {ql : List Chg} {view : List Row} (hv : Chgs w v ql) (ht : Tab w vt view) (ca cb cd ce seq tok at' dg : Int) (la sn : Bool) (now : Int) :
    Calls Tryz.prog 7 #[.agg #[.int .i64 ca, .int .i64 cb, .int .i64 cd, .int .i64 ce], .agg #[.int .i64 seq, v, .bool la, .int .i64 tok, .int .i64 at', .bool sn, .int .i64 dg], .agg #[vt, .int .i64 now]] w fun e w' => e = .returned (.bool true) ∧ Below w.heap.size w w' := by
  obtain ⟨qn, hqn⟩ : ∃ n, ql.length = n := ⟨_, rfl⟩
  obtain ⟨ao, cap, rfl⟩ := chgs_shape hv hqn
  obtain ⟨vn, hvn⟩ : ∃ n, view.length = n := ⟨_, rfl⟩
  obtain ⟨ta, tc, rfl⟩ := tab_shapeL ht hvn
  have HVN := Lib.hid hvn
  obtain ⟨f1, hf1⟩ : ∃ r, fewC ql 30 = r := ⟨_, rfl⟩
  obtain ⟨f2, hf2⟩ : ∃ r, fewT view = r := ⟨_, rfl⟩
  obtain ⟨f3, hf3⟩ : ∃ r, lnMay ⟨ca, cb, cd, ce⟩ ⟨seq, ⟨ql, la⟩, ⟨tok, at'⟩, sn, dg⟩ = r := ⟨_, rfl⟩
  obtain ⟨f4, hf4⟩ : ∃ r, diMay view = r := ⟨_, rfl⟩
  obtain ⟨f5, hf5⟩ : ∃ r, pcTime now = r := ⟨_, rfl⟩
  have F1 := Lib.hid hf1
  have F2 := Lib.hid hf2
  have F3 := Lib.hid hf3
  have F4 := Lib.hid hf4
  have F5 := Lib.hid hf5
  clear hf1 hf2 hf3 hf4 hf5
  have b0 := bl_newZ w (.cells #[.int .i64 ca, .int .i64 cb, .int .i64 cd, .int .i64 ce] 23)
  have b1 := bl_newZ (w.alloc (.cells #[.int .i64 ca, .int .i64 cb, .int .i64 cd, .int .i64 ce] 23)) (.cells #[.int .i64 seq, .slice ao qn cap, .bool la, .int .i64 tok, .int .i64 at', .bool sn, .int .i64 dg] 30)
  have b2 := bl_newZ ((w.alloc (.cells #[.int .i64 ca, .int .i64 cb, .int .i64 cd, .int .i64 ce] 23)).alloc (.cells #[.int .i64 seq, .slice ao qn cap, .bool la, .int .i64 tok, .int .i64 at', .bool sn, .int .i64 dg] 30)) (.cells #[.slice ta vn tc, .int .i64 now] 48)
  have HB := Lib.hid (below2Z (below2Z b0 b1) b2)
  have V := Lib.hid (((hv.later b0).later b1).later b2)
  have T := Lib.hid (((ht.later b0).later b1).later b2)
  have CB := newQ w (.cells #[.int .i64 ca, .int .i64 cb, .int .i64 cd, .int .i64 ce] 23)
  replace CB := upQ CB b1
  replace CB := upQ CB b2
  replace CB := Lib.hid CB
  have LB := newQ (w.alloc (.cells #[.int .i64 ca, .int .i64 cb, .int .i64 cd, .int .i64 ce] 23)) (.cells #[.int .i64 seq, .slice ao qn cap, .bool la, .int .i64 tok, .int .i64 at', .bool sn, .int .i64 dg] 30)
  rw [World.size_alloc] at LB
  replace LB := upQ LB b2
  replace LB := Lib.hid LB
  have WB := newQ ((w.alloc (.cells #[.int .i64 ca, .int .i64 cb, .int .i64 cd, .int .i64 ce] 23)).alloc (.cells #[.int .i64 seq, .slice ao qn cap, .bool la, .int .i64 tok, .int .i64 at', .bool sn, .int .i64 dg] 30)) (.cells #[.slice ta vn tc, .int .i64 now] 48)
  rw [World.size_alloc, World.size_alloc] at WB
  replace WB := Lib.hid WB
  clear b0 b1 b2
  clear hv hqn ht hvn
  go_enter Tryz.func7, Tryz.ntmps7
  go_upto_region 1 with fail
  generalize ((w.alloc (.cells #[.int .i64 ca, .int .i64 cb, .int .i64 cd, .int .i64 ce] 23)).alloc (.cells #[.int .i64 seq, .slice ao qn cap, .bool la, .int .i64 tok, .int .i64 at', .bool sn, .int .i64 dg] 30)).alloc (.cells #[.slice ta vn tc, .int .i64 now] 48) = w4 at CB LB WB V T HB ⊢
  obtain ⟨⟨LBc0, LBc1, LBc2, LBc3, LBc4, LBc5, LBc6⟩, ⟨LBf0, LBf1, LBf2, LBf3, LBf4, LBf5, LBf6⟩⟩ := blk7 LB.out
  go_wp2_with fail
  clear LBc0 LBc1 LBc2 LBc3 LBc4 LBc5 LBc6 LBf0 LBf1 LBf2 LBf3 LBf4 LBf5 LBf6
  refine (rlfew_any V.out la sn seq tok at' dg F1).mono ?_
  rintro e w5 ⟨rfl, b5⟩
  replace CB := Lib.hid (upQ CB.out b5)
  replace LB := Lib.hid (upQ LB.out b5)
  replace WB := Lib.hid (upQ WB.out b5)
  replace V := Lib.hid (V.out.later b5)
  replace T := Lib.hid (T.out.later b5)
  replace HB := Lib.hid (below2Z HB.out b5)
  clear b5
  cases f1 with
  | false =>
    go_wp2_with fail
    refine (live18 _).mono ?_
    rintro e w506 ⟨rfl, b506⟩
    replace HB := Lib.hid (below2Z HB.out b506)
    clear b506
    go_wp2_with fail
    go_ret
    exact ⟨rfl, HB.out⟩
  | true =>
    have HS := Lib.hid (fewC_short F1.out)
    have hql := (fewC_get F1.out).1
    have hq30 : ql.length ≤ 30 := by omega
    clear hql F1
    obtain ⟨⟨WBc0, WBc1⟩, ⟨WBf0, WBf1⟩⟩ := blk2 WB.out
    go_wp2_with fail
    clear WBc0 WBc1 WBf0 WBf1
    refine (fewt_eqL T.out F2).mono ?_
    rintro e w6 ⟨rfl, b6⟩
    replace CB := Lib.hid (upQ CB.out b6)
    replace LB := Lib.hid (upQ LB.out b6)
    replace WB := Lib.hid (upQ WB.out b6)
    replace V := Lib.hid (V.out.later b6)
    replace T := Lib.hid (T.out.later b6)
    replace HB := Lib.hid (below2Z HB.out b6)
    clear b6
    cases f2 with
    | false =>
      go_wp2_with fail
      refine (live18 _).mono ?_
      rintro e w507 ⟨rfl, b507⟩
      replace HB := Lib.hid (below2Z HB.out b507)
      clear b507
      go_wp2_with fail
      go_ret
      exact ⟨rfl, HB.out⟩
    | true =>
      have HH := Lib.hid (fewT_short F2.out)
      clear F2
      obtain ⟨⟨CBc0, CBc1, CBc2, CBc3⟩, ⟨CBf0, CBf1, CBf2, CBf3⟩⟩ := blk4 CB.out
      obtain ⟨⟨LBc0, LBc1, LBc2, LBc3, LBc4, LBc5, LBc6⟩, ⟨LBf0, LBf1, LBf2, LBf3, LBf4, LBf5, LBf6⟩⟩ := blk7 LB.out
      go_wp2_with fail
      clear CBc0 CBc1 CBc2 CBc3 CBf0 CBf1 CBf2 CBf3 LBc0 LBc1 LBc2 LBc3 LBc4 LBc5 LBc6 LBf0 LBf1 LBf2 LBf3 LBf4 LBf5 LBf6
      refine (rlmay_any V.out HS.out (by omega) la sn seq tok at' dg ca cb cd ce F3).mono ?_
      rintro e w7 ⟨rfl, b7⟩
      replace CB := Lib.hid (upQ CB.out b7)
      replace LB := Lib.hid (upQ LB.out b7)
      replace WB := Lib.hid (upQ WB.out b7)
      replace V := Lib.hid (V.out.later b7)
      replace T := Lib.hid (T.out.later b7)
      replace HB := Lib.hid (below2Z HB.out b7)
      clear b7
      cases f3 with
      | false =>
        go_wp2_with fail
        refine (live18 _).mono ?_
        rintro e w508 ⟨rfl, b508⟩
        replace HB := Lib.hid (below2Z HB.out b508)
        clear b508
        go_wp2_with fail
        go_ret
        exact ⟨rfl, HB.out⟩
      | true =>
        obtain ⟨⟨WBc0, WBc1⟩, ⟨WBf0, WBf1⟩⟩ := blk2 WB.out
        go_wp2_with fail
        clear WBc0 WBc1 WBf0 WBf1
        refine (rdimay_eq T.out HH.out F4).mono ?_
        rintro e w8 ⟨rfl, b8⟩
        replace CB := Lib.hid (upQ CB.out b8)
        replace LB := Lib.hid (upQ LB.out b8)
        replace WB := Lib.hid (upQ WB.out b8)
        replace V := Lib.hid (V.out.later b8)
        replace T := Lib.hid (T.out.later b8)
        replace HB := Lib.hid (below2Z HB.out b8)
        clear b8
        cases f4 with
        | false =>
          go_wp2_with fail
          refine (live18 _).mono ?_
          rintro e w509 ⟨rfl, b509⟩
          replace HB := Lib.hid (below2Z HB.out b509)
          clear b509
          go_wp2_with fail
          go_ret
          exact ⟨rfl, HB.out⟩
        | true =>
          obtain ⟨⟨WBc0, WBc1⟩, ⟨WBf0, WBf1⟩⟩ := blk2 WB.out
          go_wp2_with fail
          clear WBc0 WBc1 WBf0 WBf1
          refine (rptime_eqL now F5 _).mono ?_
          rintro e w9 ⟨rfl, b9⟩
          replace CB := Lib.hid (upQ CB.out b9)
          replace LB := Lib.hid (upQ LB.out b9)
          replace WB := Lib.hid (upQ WB.out b9)
          replace V := Lib.hid (V.out.later b9)
          replace T := Lib.hid (T.out.later b9)
          replace HB := Lib.hid (below2Z HB.out b9)
          clear b9
          cases f5 with
          | false =>
            go_wp2_with fail
            refine (live18 _).mono ?_
            rintro e w510 ⟨rfl, b510⟩
            replace HB := Lib.hid (below2Z HB.out b510)
            clear b510
            go_wp2_with fail
            go_ret
            exact ⟨rfl, HB.out⟩
          | true =>
            by_cases hsq : 549755813888 < seq
            case pos =>
              have t1 : decide (549755813888 < seq) = true := by simp; omega
              obtain ⟨⟨LBc0, LBc1, LBc2, LBc3, LBc4, LBc5, LBc6⟩, ⟨LBf0, LBf1, LBf2, LBf3, LBf4, LBf5, LBf6⟩⟩ := blk7 LB.out
              go_wp2_with fail
              clear LBc0 LBc1 LBc2 LBc3 LBc4 LBc5 LBc6 LBf0 LBf1 LBf2 LBf3 LBf4 LBf5 LBf6 LB
              refine (live18 _).mono ?_
              rintro e w510 ⟨rfl, b510⟩
              replace HB := Lib.hid (below2Z HB.out b510)
              clear b510
              go_wp2_with fail
              go_ret
              exact ⟨rfl, HB.out⟩
            case neg =>
              have t1 : decide (549755813888 < seq) = false := by simp; omega
              obtain ⟨⟨⟨ms, ⟨mq, ml⟩, ⟨mt, ma⟩, mn, md⟩, fs⟩, hE⟩ : ∃ p, lnEmit ⟨ca, cb, cd, ce⟩ ⟨seq, ⟨ql, la⟩, ⟨tok, at'⟩, sn, dg⟩ view now = p := ⟨_, rfl⟩
              have hE2 := emit_again F3.out F4.out F5.out hE
              obtain ⟨hm2, hE3⟩ := hE2
              have hlm := lnMay_short hm2
              obtain ⟨hsm, hlm2, _⟩ := hlm
              simp only at hsm hlm2
              have HSM := Lib.hid hsm
              have HE := Lib.hid hE
              have HE2 := Lib.hid hE3
              have hA := emit_asked F3.out F4.out F5.out (by show seq < 1099511627776; omega)
              simp only at hA
              have HA := Lib.hid hA
              clear hE hE3 hm2 hsm hA
              obtain ⟨lv, hlv⟩ : ∃ r, pcLevel ⟨ca, cb, cd, ce⟩ ⟨tok, at'⟩ now = r := ⟨_, rfl⟩
              have HLV := Lib.hid hlv
              clear hlv
              obtain ⟨⟨CBc0, CBc1, CBc2, CBc3⟩, ⟨CBf0, CBf1, CBf2, CBf3⟩⟩ := blk4 CB.out
              obtain ⟨⟨LBc0, LBc1, LBc2, LBc3, LBc4, LBc5, LBc6⟩, ⟨LBf0, LBf1, LBf2, LBf3, LBf4, LBf5, LBf6⟩⟩ := blk7 LB.out
              obtain ⟨⟨WBc0, WBc1⟩, ⟨WBf0, WBf1⟩⟩ := blk2 WB.out
              go_wp2_with fail
              clear CBc0 CBc1 CBc2 CBc3 CBf0 CBf1 CBf2 CBf3 LBc0 LBc1 LBc2 LBc3 LBc4 LBc5 LBc6 LBf0 LBf1 LBf2 LBf3 LBf4 LBf5 LBf6 WBc0 WBc1 WBf0 WBf1
              refine (lemit_eq V.out T.out HS.out (by omega) HH.out ca cb cd ce seq tok at' dg now la sn HE).mono ?_
              rintro e w10 ⟨uM, fvM, psM, rfl, hM, kM, mM, b10⟩
              replace CB := Lib.hid (upQ CB.out b10)
              replace LB := Lib.hid (upQ LB.out b10)
              replace WB := Lib.hid (upQ WB.out b10)
              replace V := Lib.hid (V.out.later b10)
              replace T := Lib.hid (T.out.later b10)
              replace HB := Lib.hid (below2Z HB.out b10)
              obtain ⟨nM, hnM⟩ : ∃ n, mq.length = n := ⟨_, rfl⟩
              obtain ⟨uMa, uMc, rfl⟩ := chgs_shape hM hnM
              skip
              have QM := Lib.hid hM
              have KM := Lib.hid kM
              clear hM hnM kM
              clear b10
              have b11 := bl_newZ w10 (.cells #[.int .i64 ms, .slice uMa nM uMc, .bool ml, .int .i64 mt, .int .i64 ma, .bool mn, .int .i64 md] 30)
              have L7 := newQ w10 (.cells #[.int .i64 ms, .slice uMa nM uMc, .bool ml, .int .i64 mt, .int .i64 ma, .bool mn, .int .i64 md] 30)
              have hL7 : w.heap.size ≤ w10.heap.size := HB.out.size
              replace CB := Lib.hid (upQ CB.out b11)
              replace LB := Lib.hid (upQ LB.out b11)
              replace WB := Lib.hid (upQ WB.out b11)
              replace V := Lib.hid (V.out.later b11)
              replace T := Lib.hid (T.out.later b11)
              replace QM := Lib.hid (Chgs.later QM.out b11)
              replace KM := Lib.hid (KF.later KM.out b11)
              replace HB := Lib.hid (below2Z HB.out b11)
              clear b11
              replace L7 := Lib.hid L7
              clear KM mM
              go_upto_region 4 with fail
              generalize w10.alloc (.cells #[.int .i64 ms, .slice uMa nM uMc, .bool ml, .int .i64 mt, .int .i64 ma, .bool mn, .int .i64 md] 30) = w12 at CB LB WB L7 V T QM HB ⊢
              obtain ⟨⟨CBc0, CBc1, CBc2, CBc3⟩, ⟨CBf0, CBf1, CBf2, CBf3⟩⟩ := blk4 CB.out
              obtain ⟨⟨L7c0, L7c1, L7c2, L7c3, L7c4, L7c5, L7c6⟩, ⟨L7f0, L7f1, L7f2, L7f3, L7f4, L7f5, L7f6⟩⟩ := blk7 L7.out
              obtain ⟨⟨WBc0, WBc1⟩, ⟨WBf0, WBf1⟩⟩ := blk2 WB.out
              go_wp2_with fail
              clear CBc0 CBc1 CBc2 CBc3 CBf0 CBf1 CBf2 CBf3 L7c0 L7c1 L7c2 L7c3 L7c4 L7c5 L7c6 L7f0 L7f1 L7f2 L7f3 L7f4 L7f5 L7f6 WBc0 WBc1 WBf0 WBf1
              refine (lemit_eq QM.out T.out HSM.out (by omega) HH.out ca cb cd ce ms mt ma md now ml mn HE2).mono ?_
              rintro e w13 ⟨uN, fvN, psN, rfl, hN, kN, mN, b13⟩
              replace CB := Lib.hid (upQ CB.out b13)
              replace LB := Lib.hid (upQ LB.out b13)
              replace WB := Lib.hid (upQ WB.out b13)
              replace L7 := Lib.hid (upQ L7.out b13)
              replace V := Lib.hid (V.out.later b13)
              replace T := Lib.hid (T.out.later b13)
              replace QM := Lib.hid (Chgs.later QM.out b13)
              replace HB := Lib.hid (below2Z HB.out b13)
              obtain ⟨nN, hnN⟩ : ∃ n, mq.length = n := ⟨_, rfl⟩
              obtain ⟨uNa, uNc, rfl⟩ := chgs_shape hN hnN
              obtain ⟨fNa, fNc, rfl⟩ := kf_zero kN mN
              have QN := Lib.hid hN
              clear hN hnN kN mN
              clear b13
              have b14 := bl_newZ w13 (.cells #[.int .i64 ms, .slice uNa nN uNc, .bool ml, .int .i64 mt, .int .i64 ma, .bool mn, .int .i64 md] 30)
              have L9 := newQ w13 (.cells #[.int .i64 ms, .slice uNa nN uNc, .bool ml, .int .i64 mt, .int .i64 ma, .bool mn, .int .i64 md] 30)
              have hL9 : w.heap.size ≤ w13.heap.size := HB.out.size
              replace CB := Lib.hid (upQ CB.out b14)
              replace LB := Lib.hid (upQ LB.out b14)
              replace WB := Lib.hid (upQ WB.out b14)
              replace L7 := Lib.hid (upQ L7.out b14)
              replace V := Lib.hid (V.out.later b14)
              replace T := Lib.hid (T.out.later b14)
              replace QM := Lib.hid (Chgs.later QM.out b14)
              replace QN := Lib.hid (Chgs.later QN.out b14)
              replace HB := Lib.hid (below2Z HB.out b14)
              clear b14
              replace L9 := Lib.hid L9
              go_upto_region 5 with fail
              generalize w13.alloc (.cells #[.int .i64 ms, .slice uNa nN uNc, .bool ml, .int .i64 mt, .int .i64 ma, .bool mn, .int .i64 md] 30) = w15 at CB LB WB L7 L9 V T QM QN HB ⊢
              obtain ⟨⟨L7c0, L7c1, L7c2, L7c3, L7c4, L7c5, L7c6⟩, ⟨L7f0, L7f1, L7f2, L7f3, L7f4, L7f5, L7f6⟩⟩ := blk7 L7.out
              obtain ⟨⟨L9c0, L9c1, L9c2, L9c3, L9c4, L9c5, L9c6⟩, ⟨L9f0, L9f1, L9f2, L9f3, L9f4, L9f5, L9f6⟩⟩ := blk7 L9.out
              go_wp2_with fail
              clear L7c0 L7c1 L7c2 L7c3 L7c4 L7c5 L7c6 L7f0 L7f1 L7f2 L7f3 L7f4 L7f5 L7f6 L9c0 L9c1 L9c2 L9c3 L9c4 L9c5 L9c6 L9f0 L9f1 L9f2 L9f3 L9f4 L9f5 L9f6
              refine (rlsame_yes QM.out QN.out ml mn ms mt ma md).mono ?_
              rintro e w16 ⟨rfl, b16⟩
              replace CB := Lib.hid (upQ CB.out b16)
              replace LB := Lib.hid (upQ LB.out b16)
              replace WB := Lib.hid (upQ WB.out b16)
              replace L7 := Lib.hid (upQ L7.out b16)
              replace L9 := Lib.hid (upQ L9.out b16)
              replace V := Lib.hid (V.out.later b16)
              replace T := Lib.hid (T.out.later b16)
              replace QM := Lib.hid (Chgs.later QM.out b16)
              replace QN := Lib.hid (Chgs.later QN.out b16)
              replace HB := Lib.hid (below2Z HB.out b16)
              clear b16
              clear L9
              clear L7
              clear QM QN
              obtain ⟨⟨LBc0, LBc1, LBc2, LBc3, LBc4, LBc5, LBc6⟩, ⟨LBf0, LBf1, LBf2, LBf3, LBf4, LBf5, LBf6⟩⟩ := blk7 LB.out
              go_wp2_with fail
              clear LBc0 LBc1 LBc2 LBc3 LBc4 LBc5 LBc6 LBf0 LBf1 LBf2 LBf3 LBf4 LBf5 LBf6
              refine (lask_any seq tok at' dg ao qn cap la sn _).mono ?_
              rintro e w17 ⟨rfl, b17⟩
              replace CB := Lib.hid (upQ CB.out b17)
              replace LB := Lib.hid (upQ LB.out b17)
              replace WB := Lib.hid (upQ WB.out b17)
              replace V := Lib.hid (V.out.later b17)
              replace T := Lib.hid (T.out.later b17)
              replace HB := Lib.hid (below2Z HB.out b17)
              clear b17
              have b18 := bl_newZ w17 (.cells #[.int .i64 seq, .slice none 0 0, .bool false, .int .i64 tok, .int .i64 at', .bool true, .int .i64 dg] 30)
              have L11 := newQ w17 (.cells #[.int .i64 seq, .slice none 0 0, .bool false, .int .i64 tok, .int .i64 at', .bool true, .int .i64 dg] 30)
              have hL11 : w.heap.size ≤ w17.heap.size := HB.out.size
              replace CB := Lib.hid (upQ CB.out b18)
              replace LB := Lib.hid (upQ LB.out b18)
              replace WB := Lib.hid (upQ WB.out b18)
              replace V := Lib.hid (V.out.later b18)
              replace T := Lib.hid (T.out.later b18)
              replace HB := Lib.hid (below2Z HB.out b18)
              clear b18
              replace L11 := Lib.hid L11
              go_upto_region 8 with fail
              generalize w17.alloc (.cells #[.int .i64 seq, .slice none 0 0, .bool false, .int .i64 tok, .int .i64 at', .bool true, .int .i64 dg] 30) = w19 at CB LB WB L11 V T HB ⊢
              by_cases hz : lv = 0
              case pos =>
                have HE3 := Lib.hid (HA.out.1 (HLV.out.trans hz))
                have hz2 : (lv == 0) = true := by rw [hz]; rfl
                obtain ⟨⟨CBc0, CBc1, CBc2, CBc3⟩, ⟨CBf0, CBf1, CBf2, CBf3⟩⟩ := blk4 CB.out
                obtain ⟨⟨L11c0, L11c1, L11c2, L11c3, L11c4, L11c5, L11c6⟩, ⟨L11f0, L11f1, L11f2, L11f3, L11f4, L11f5, L11f6⟩⟩ := blk7 L11.out
                obtain ⟨⟨WBc0, WBc1⟩, ⟨WBf0, WBf1⟩⟩ := blk2 WB.out
                go_wp2_with fail
                clear CBc0 CBc1 CBc2 CBc3 CBf0 CBf1 CBf2 CBf3 L11c0 L11c1 L11c2 L11c3 L11c4 L11c5 L11c6 L11f0 L11f1 L11f2 L11f3 L11f4 L11f5 L11f6 WBc0 WBc1 WBf0 WBf1
                refine (lemit_eq (chgs_nil _) T.out shortC_nilL (by decide) HH.out ca cb cd ce seq tok at' dg now false true HE3).mono ?_
                rintro e w120 ⟨uB, fvB, psB, rfl, hB, kB, mB, b120⟩
                replace CB := Lib.hid (upQ CB.out b120)
                replace LB := Lib.hid (upQ LB.out b120)
                replace WB := Lib.hid (upQ WB.out b120)
                replace L11 := Lib.hid (upQ L11.out b120)
                replace V := Lib.hid (V.out.later b120)
                replace T := Lib.hid (T.out.later b120)
                replace HB := Lib.hid (below2Z HB.out b120)
                obtain ⟨nB, hnB⟩ : ∃ n, ([] : List Chg).length = n := ⟨_, rfl⟩
                obtain ⟨uBa, uBc, rfl⟩ := chgs_shape hB hnB
                obtain ⟨fBa, fBc, rfl⟩ := kf_zero kB mB
                have QB := Lib.hid hB
                clear hB hnB kB mB
                clear b120
                have b121 := bl_newZ w120 (.cells #[.int .i64 seq, .slice uBa nB uBc, .bool false, .int .i64 tok, .int .i64 at', .bool true, .int .i64 dg] 30)
                have L12 := newQ w120 (.cells #[.int .i64 seq, .slice uBa nB uBc, .bool false, .int .i64 tok, .int .i64 at', .bool true, .int .i64 dg] 30)
                have hL12 : w.heap.size ≤ w120.heap.size := HB.out.size
                replace CB := Lib.hid (upQ CB.out b121)
                replace LB := Lib.hid (upQ LB.out b121)
                replace WB := Lib.hid (upQ WB.out b121)
                replace L11 := Lib.hid (upQ L11.out b121)
                replace V := Lib.hid (V.out.later b121)
                replace T := Lib.hid (T.out.later b121)
                replace QB := Lib.hid (Chgs.later QB.out b121)
                replace HB := Lib.hid (below2Z HB.out b121)
                clear b121
                replace L12 := Lib.hid L12
                go_upto_region 9 with fail
                generalize w120.alloc (.cells #[.int .i64 seq, .slice uBa nB uBc, .bool false, .int .i64 tok, .int .i64 at', .bool true, .int .i64 dg] 30) = w122 at CB LB WB L11 L12 V T QB HB ⊢
                obtain ⟨⟨CBc0, CBc1, CBc2, CBc3⟩, ⟨CBf0, CBf1, CBf2, CBf3⟩⟩ := blk4 CB.out
                obtain ⟨⟨LBc0, LBc1, LBc2, LBc3, LBc4, LBc5, LBc6⟩, ⟨LBf0, LBf1, LBf2, LBf3, LBf4, LBf5, LBf6⟩⟩ := blk7 LB.out
                obtain ⟨⟨WBc0, WBc1⟩, ⟨WBf0, WBf1⟩⟩ := blk2 WB.out
                go_wp2_with fail
                clear CBc0 CBc1 CBc2 CBc3 CBf0 CBf1 CBf2 CBf3 LBc0 LBc1 LBc2 LBc3 LBc4 LBc5 LBc6 LBf0 LBf1 LBf2 LBf3 LBf4 LBf5 LBf6 WBc0 WBc1 WBf0 WBf1
                refine (rplevel_any ca cb cd ce tok at' now HLV _).mono ?_
                rintro e w123 ⟨rfl, b123⟩
                replace CB := Lib.hid (upQ CB.out b123)
                replace LB := Lib.hid (upQ LB.out b123)
                replace WB := Lib.hid (upQ WB.out b123)
                replace L11 := Lib.hid (upQ L11.out b123)
                replace L12 := Lib.hid (upQ L12.out b123)
                replace V := Lib.hid (V.out.later b123)
                replace T := Lib.hid (T.out.later b123)
                replace QB := Lib.hid (Chgs.later QB.out b123)
                replace HB := Lib.hid (below2Z HB.out b123)
                clear b123
                obtain ⟨⟨L12c0, L12c1, L12c2, L12c3, L12c4, L12c5, L12c6⟩, ⟨L12f0, L12f1, L12f2, L12f3, L12f4, L12f5, L12f6⟩⟩ := blk7 L12.out
                go_wp2_with fail
                clear L12c0 L12c1 L12c2 L12c3 L12c4 L12c5 L12c6 L12f0 L12f1 L12f2 L12f3 L12f4 L12f5 L12f6 L12
                refine (live18 _).mono ?_
                rintro e w124 ⟨rfl, b124⟩
                replace HB := Lib.hid (below2Z HB.out b124)
                clear b124
                go_wp2_with fail
                go_ret
                exact ⟨rfl, HB.out⟩
              case neg =>
                have HE3 := Lib.hid (HA.out.2 (fun e => hz (HLV.out.symm.trans e)))
                obtain ⟨⟨⟨bx, bt⟩, bk⟩, hbk⟩ : ∃ p, pcTake ⟨ca, cb, cd, ce⟩ ⟨tok, at'⟩ now = p := ⟨_, rfl⟩
                rw [hbk] at HE3
                simp only at HE3
                clear hbk
                have hz2 : (lv == 0) = false := by simpa using hz
                obtain ⟨⟨CBc0, CBc1, CBc2, CBc3⟩, ⟨CBf0, CBf1, CBf2, CBf3⟩⟩ := blk4 CB.out
                obtain ⟨⟨L11c0, L11c1, L11c2, L11c3, L11c4, L11c5, L11c6⟩, ⟨L11f0, L11f1, L11f2, L11f3, L11f4, L11f5, L11f6⟩⟩ := blk7 L11.out
                obtain ⟨⟨WBc0, WBc1⟩, ⟨WBf0, WBf1⟩⟩ := blk2 WB.out
                go_wp2_with fail
                clear CBc0 CBc1 CBc2 CBc3 CBf0 CBf1 CBf2 CBf3 L11c0 L11c1 L11c2 L11c3 L11c4 L11c5 L11c6 L11f0 L11f1 L11f2 L11f3 L11f4 L11f5 L11f6 WBc0 WBc1 WBf0 WBf1
                refine (lemit_eq (chgs_nil _) T.out shortC_nilL (by decide) HH.out ca cb cd ce seq tok at' dg now false true HE3).mono ?_
                rintro e w20 ⟨uB, fvB, psB, rfl, hB, kB, mB, b20⟩
                replace CB := Lib.hid (upQ CB.out b20)
                replace LB := Lib.hid (upQ LB.out b20)
                replace WB := Lib.hid (upQ WB.out b20)
                replace L11 := Lib.hid (upQ L11.out b20)
                replace V := Lib.hid (V.out.later b20)
                replace T := Lib.hid (T.out.later b20)
                replace HB := Lib.hid (below2Z HB.out b20)
                obtain ⟨nB, hnB⟩ : ∃ n, ([] : List Chg).length = n := ⟨_, rfl⟩
                obtain ⟨uBa, uBc, rfl⟩ := chgs_shape hB hnB
                obtain ⟨gB, fBc, pBa, pBc, rfl, hFB, hTB⟩ := kf_one kB mB
                have QB := Lib.hid hB
                have WBf := Lib.hid hFB
                have YB := Lib.hid hTB
                clear hB hnB kB mB hFB hTB
                clear b20
                have b21 := bl_newZ w20 (.cells #[.int .i64 (seq + 1), .slice uBa nB uBc, .bool false, .int .i64 bx, .int .i64 bt, .bool false, .int .i64 now] 30)
                have L12 := newQ w20 (.cells #[.int .i64 (seq + 1), .slice uBa nB uBc, .bool false, .int .i64 bx, .int .i64 bt, .bool false, .int .i64 now] 30)
                have hL12 : w.heap.size ≤ w20.heap.size := HB.out.size
                replace CB := Lib.hid (upQ CB.out b21)
                replace LB := Lib.hid (upQ LB.out b21)
                replace WB := Lib.hid (upQ WB.out b21)
                replace L11 := Lib.hid (upQ L11.out b21)
                replace V := Lib.hid (V.out.later b21)
                replace T := Lib.hid (T.out.later b21)
                replace QB := Lib.hid (Chgs.later QB.out b21)
                replace WBf := Lib.hid (CellsAt.later WBf.out b21)
                replace YB := Lib.hid (Tab.later YB.out b21)
                replace HB := Lib.hid (below2Z HB.out b21)
                clear b21
                replace L12 := Lib.hid L12
                go_upto_region 9 with fail
                generalize w20.alloc (.cells #[.int .i64 (seq + 1), .slice uBa nB uBc, .bool false, .int .i64 bx, .int .i64 bt, .bool false, .int .i64 now] 30) = w22 at CB LB WB L11 L12 V T QB WBf YB HB ⊢
                obtain ⟨⟨CBc0, CBc1, CBc2, CBc3⟩, ⟨CBf0, CBf1, CBf2, CBf3⟩⟩ := blk4 CB.out
                obtain ⟨⟨LBc0, LBc1, LBc2, LBc3, LBc4, LBc5, LBc6⟩, ⟨LBf0, LBf1, LBf2, LBf3, LBf4, LBf5, LBf6⟩⟩ := blk7 LB.out
                obtain ⟨⟨WBc0, WBc1⟩, ⟨WBf0, WBf1⟩⟩ := blk2 WB.out
                go_wp2_with fail
                clear CBc0 CBc1 CBc2 CBc3 CBf0 CBf1 CBf2 CBf3 LBc0 LBc1 LBc2 LBc3 LBc4 LBc5 LBc6 LBf0 LBf1 LBf2 LBf3 LBf4 LBf5 LBf6 WBc0 WBc1 WBf0 WBf1
                refine (rplevel_any ca cb cd ce tok at' now HLV _).mono ?_
                rintro e w23 ⟨rfl, b23⟩
                replace CB := Lib.hid (upQ CB.out b23)
                replace LB := Lib.hid (upQ LB.out b23)
                replace WB := Lib.hid (upQ WB.out b23)
                replace L11 := Lib.hid (upQ L11.out b23)
                replace L12 := Lib.hid (upQ L12.out b23)
                replace V := Lib.hid (V.out.later b23)
                replace T := Lib.hid (T.out.later b23)
                replace QB := Lib.hid (Chgs.later QB.out b23)
                replace WBf := Lib.hid (CellsAt.later WBf.out b23)
                replace YB := Lib.hid (Tab.later YB.out b23)
                replace HB := Lib.hid (below2Z HB.out b23)
                clear b23
                go_upto_region 11 with fail
                generalize w23 = w24 at CB LB WB L11 L12 V T QB WBf YB HB ⊢
                have e3 : view.length = vn := HVN.out
                have hfl : (⟨3, seq, false, [], Val.zero, 0, view⟩ : Frm).t.length = vn := HVN.out
                clear e3
                have FCB : Hid (CellsAt w24 gB 0 [.int .i64 3, .int .i64 seq, .bool false, .string ⟨#[]⟩, .int .i64 0, .int .i64 0, .int .i64 0, .string ⟨#[]⟩, .int .u64 0, .slice pBa vn pBc]) := Lib.hid (by rw [← hfl]; exact WBf.out)
                have YT : Hid (Tab w24 (.slice pBa vn pBc) view) := Lib.hid (by rw [← hfl]; exact YB.out)
                clear hfl
                obtain ⟨BS, hBS⟩ : ∃ BS : List (Nat × List Value), BS = [(w.heap.size + 1, [.int .i64 seq, .slice ao qn cap, .bool la, .int .i64 tok, .int .i64 at', .bool sn, .int .i64 dg]), (w.heap.size + 1 + 1, [.slice ta vn tc, .int .i64 now]), (w20.heap.size, [.int .i64 (seq + 1), .slice uBa nB uBc, .bool false, .int .i64 bx, .int .i64 bt, .bool false, .int .i64 now]), (gB, [.int .i64 3, .int .i64 seq, .bool false, .string ⟨#[]⟩, .int .i64 0, .int .i64 0, .int .i64 0, .string ⟨#[]⟩, .int .u64 0, .slice pBa vn pBc])] := ⟨_, rfl⟩
                have D0 := Lib.hid (show heldB w24 BS from by rw [hBS]; exact heldB_cons (cellsAt_block LB.out) (heldB_cons (cellsAt_block WB.out) (heldB_cons (cellsAt_block L12.out) (heldB_cons (FCB.out) (heldB_nil _)))))
                have hq0 : ∀ X, heldB X BS → X.cell? ⟨w.heap.size + 1, 0, none⟩ = some (.int .i64 seq) := fun X hx => heldB_get (vs := [.int .i64 seq, .slice ao qn cap, .bool la, .int .i64 tok, .int .i64 at', .bool sn, .int .i64 dg]) hx (by rw [hBS]; simp) rfl
                have hq1 : ∀ X, heldB X BS → X.cell? ⟨w.heap.size + 1, 1, none⟩ = some (.slice ao qn cap) := fun X hx => heldB_get (vs := [.int .i64 seq, .slice ao qn cap, .bool la, .int .i64 tok, .int .i64 at', .bool sn, .int .i64 dg]) hx (by rw [hBS]; simp) rfl
                have hq2 : ∀ X, heldB X BS → X.cell? ⟨w.heap.size + 1, 2, none⟩ = some (.bool la) := fun X hx => heldB_get (vs := [.int .i64 seq, .slice ao qn cap, .bool la, .int .i64 tok, .int .i64 at', .bool sn, .int .i64 dg]) hx (by rw [hBS]; simp) rfl
                have hq3 : ∀ X, heldB X BS → X.cell? ⟨w.heap.size + 1, 3, none⟩ = some (.int .i64 tok) := fun X hx => heldB_get (vs := [.int .i64 seq, .slice ao qn cap, .bool la, .int .i64 tok, .int .i64 at', .bool sn, .int .i64 dg]) hx (by rw [hBS]; simp) rfl
                have hq4 : ∀ X, heldB X BS → X.cell? ⟨w.heap.size + 1, 4, none⟩ = some (.int .i64 at') := fun X hx => heldB_get (vs := [.int .i64 seq, .slice ao qn cap, .bool la, .int .i64 tok, .int .i64 at', .bool sn, .int .i64 dg]) hx (by rw [hBS]; simp) rfl
                have hq5 : ∀ X, heldB X BS → X.cell? ⟨w.heap.size + 1, 5, none⟩ = some (.bool sn) := fun X hx => heldB_get (vs := [.int .i64 seq, .slice ao qn cap, .bool la, .int .i64 tok, .int .i64 at', .bool sn, .int .i64 dg]) hx (by rw [hBS]; simp) rfl
                have hq6 : ∀ X, heldB X BS → X.cell? ⟨w.heap.size + 1, 6, none⟩ = some (.int .i64 dg) := fun X hx => heldB_get (vs := [.int .i64 seq, .slice ao qn cap, .bool la, .int .i64 tok, .int .i64 at', .bool sn, .int .i64 dg]) hx (by rw [hBS]; simp) rfl
                have hq7 : ∀ X, heldB X BS → X.cell? ⟨w.heap.size + 1 + 1, 0, none⟩ = some (.slice ta vn tc) := fun X hx => heldB_get (vs := [.slice ta vn tc, .int .i64 now]) hx (by rw [hBS]; simp) rfl
                have hq8 : ∀ X, heldB X BS → X.cell? ⟨w.heap.size + 1 + 1, 1, none⟩ = some (.int .i64 now) := fun X hx => heldB_get (vs := [.slice ta vn tc, .int .i64 now]) hx (by rw [hBS]; simp) rfl
                have hq9 : ∀ X, heldB X BS → X.cell? ⟨w20.heap.size, 0, none⟩ = some (.int .i64 (seq + 1)) := fun X hx => heldB_get (vs := [.int .i64 (seq + 1), .slice uBa nB uBc, .bool false, .int .i64 bx, .int .i64 bt, .bool false, .int .i64 now]) hx (by rw [hBS]; simp) rfl
                have hq10 : ∀ X, heldB X BS → X.cell? ⟨w20.heap.size, 1, none⟩ = some (.slice uBa nB uBc) := fun X hx => heldB_get (vs := [.int .i64 (seq + 1), .slice uBa nB uBc, .bool false, .int .i64 bx, .int .i64 bt, .bool false, .int .i64 now]) hx (by rw [hBS]; simp) rfl
                have hq11 : ∀ X, heldB X BS → X.cell? ⟨w20.heap.size, 2, none⟩ = some (.bool false) := fun X hx => heldB_get (vs := [.int .i64 (seq + 1), .slice uBa nB uBc, .bool false, .int .i64 bx, .int .i64 bt, .bool false, .int .i64 now]) hx (by rw [hBS]; simp) rfl
                have hq12 : ∀ X, heldB X BS → X.cell? ⟨w20.heap.size, 3, none⟩ = some (.int .i64 bx) := fun X hx => heldB_get (vs := [.int .i64 (seq + 1), .slice uBa nB uBc, .bool false, .int .i64 bx, .int .i64 bt, .bool false, .int .i64 now]) hx (by rw [hBS]; simp) rfl
                have hq13 : ∀ X, heldB X BS → X.cell? ⟨w20.heap.size, 4, none⟩ = some (.int .i64 bt) := fun X hx => heldB_get (vs := [.int .i64 (seq + 1), .slice uBa nB uBc, .bool false, .int .i64 bx, .int .i64 bt, .bool false, .int .i64 now]) hx (by rw [hBS]; simp) rfl
                have hq14 : ∀ X, heldB X BS → X.cell? ⟨w20.heap.size, 5, none⟩ = some (.bool false) := fun X hx => heldB_get (vs := [.int .i64 (seq + 1), .slice uBa nB uBc, .bool false, .int .i64 bx, .int .i64 bt, .bool false, .int .i64 now]) hx (by rw [hBS]; simp) rfl
                have hq15 : ∀ X, heldB X BS → X.cell? ⟨w20.heap.size, 6, none⟩ = some (.int .i64 now) := fun X hx => heldB_get (vs := [.int .i64 (seq + 1), .slice uBa nB uBc, .bool false, .int .i64 bx, .int .i64 bt, .bool false, .int .i64 now]) hx (by rw [hBS]; simp) rfl
                have hq16 : ∀ X, heldB X BS → X.cell? ⟨gB, 0, none⟩ = some (.int .i64 3) := fun X hx => heldB_get (vs := [.int .i64 3, .int .i64 seq, .bool false, .string ⟨#[]⟩, .int .i64 0, .int .i64 0, .int .i64 0, .string ⟨#[]⟩, .int .u64 0, .slice pBa vn pBc]) hx (by rw [hBS]; simp) rfl
                have hq17 : ∀ X, heldB X BS → X.cell? ⟨gB, 1, none⟩ = some (.int .i64 seq) := fun X hx => heldB_get (vs := [.int .i64 3, .int .i64 seq, .bool false, .string ⟨#[]⟩, .int .i64 0, .int .i64 0, .int .i64 0, .string ⟨#[]⟩, .int .u64 0, .slice pBa vn pBc]) hx (by rw [hBS]; simp) rfl
                have hq18 : ∀ X, heldB X BS → X.cell? ⟨gB, 2, none⟩ = some (.bool false) := fun X hx => heldB_get (vs := [.int .i64 3, .int .i64 seq, .bool false, .string ⟨#[]⟩, .int .i64 0, .int .i64 0, .int .i64 0, .string ⟨#[]⟩, .int .u64 0, .slice pBa vn pBc]) hx (by rw [hBS]; simp) rfl
                have hq19 : ∀ X, heldB X BS → X.cell? ⟨gB, 3, none⟩ = some (.string ⟨#[]⟩) := fun X hx => heldB_get (vs := [.int .i64 3, .int .i64 seq, .bool false, .string ⟨#[]⟩, .int .i64 0, .int .i64 0, .int .i64 0, .string ⟨#[]⟩, .int .u64 0, .slice pBa vn pBc]) hx (by rw [hBS]; simp) rfl
                have hq20 : ∀ X, heldB X BS → X.cell? ⟨gB, 4, none⟩ = some (.int .i64 0) := fun X hx => heldB_get (vs := [.int .i64 3, .int .i64 seq, .bool false, .string ⟨#[]⟩, .int .i64 0, .int .i64 0, .int .i64 0, .string ⟨#[]⟩, .int .u64 0, .slice pBa vn pBc]) hx (by rw [hBS]; simp) rfl
                have hq21 : ∀ X, heldB X BS → X.cell? ⟨gB, 5, none⟩ = some (.int .i64 0) := fun X hx => heldB_get (vs := [.int .i64 3, .int .i64 seq, .bool false, .string ⟨#[]⟩, .int .i64 0, .int .i64 0, .int .i64 0, .string ⟨#[]⟩, .int .u64 0, .slice pBa vn pBc]) hx (by rw [hBS]; simp) rfl
                have hq22 : ∀ X, heldB X BS → X.cell? ⟨gB, 6, none⟩ = some (.int .i64 0) := fun X hx => heldB_get (vs := [.int .i64 3, .int .i64 seq, .bool false, .string ⟨#[]⟩, .int .i64 0, .int .i64 0, .int .i64 0, .string ⟨#[]⟩, .int .u64 0, .slice pBa vn pBc]) hx (by rw [hBS]; simp) rfl
                have hq23 : ∀ X, heldB X BS → X.cell? ⟨gB, 7, none⟩ = some (.string ⟨#[]⟩) := fun X hx => heldB_get (vs := [.int .i64 3, .int .i64 seq, .bool false, .string ⟨#[]⟩, .int .i64 0, .int .i64 0, .int .i64 0, .string ⟨#[]⟩, .int .u64 0, .slice pBa vn pBc]) hx (by rw [hBS]; simp) rfl
                have hq24 : ∀ X, heldB X BS → X.cell? ⟨gB, 8, none⟩ = some (.int .u64 0) := fun X hx => heldB_get (vs := [.int .i64 3, .int .i64 seq, .bool false, .string ⟨#[]⟩, .int .i64 0, .int .i64 0, .int .i64 0, .string ⟨#[]⟩, .int .u64 0, .slice pBa vn pBc]) hx (by rw [hBS]; simp) rfl
                have hq25 : ∀ X, heldB X BS → X.cell? ⟨gB, 9, none⟩ = some (.slice pBa vn pBc) := fun X hx => heldB_get (vs := [.int .i64 3, .int .i64 seq, .bool false, .string ⟨#[]⟩, .int .i64 0, .int .i64 0, .int .i64 0, .string ⟨#[]⟩, .int .u64 0, .slice pBa vn pBc]) hx (by rw [hBS]; simp) rfl
                clear hBS
                have K0 : Hid (Below w24.heap.size w24 w24.drew) := Lib.hid (Below.refl _ _).drew
                refine wp_region_held_drew (S := (fun X => heldB X BS)) (by kernel_rfl) ?_ (fun hHeld => ?_)
                · exact heldB_up K0.out D0.out
                generalize w24.drew = z0 at K0 hHeld ⊢
                refine wpAnyH_take (i := 0) (oi := { dst := some 105, op := Op.move (Operand.tmp 13), type := 50, pos := "law.go:174", after := #[], guard := none }) (v := ?_) rfl (by as_aux_lemma => kernel_rfl) (by as_aux_lemma => kernel_rfl) (by as_aux_lemma => kernel_rfl) (fun _ _ _ h => h) (Or.inl ⟨by rfl, ?_⟩) (by assumption) ?_
                rotate_left
                · intro w' hSw
                  try dsimp only at hSw
                  go_simp
                  try with_reducible rfl
                try simp only [Act.put, List.setIfInBounds_toArray, List.set_cons_zero, List.set_cons_succ]
                refine wpAnyH_take (i := 1) (oi := { dst := some 106, op := Op.call { callee := Callee.builtin Builtin.len, args := #[Operand.tmp 105], argTypes := #[50] }, type := 3, pos := "law.go:174", after := #[{ on := 0, ground := Ground.data }], guard := none }) (v := ?_) rfl (by as_aux_lemma => kernel_rfl) (by as_aux_lemma => kernel_rfl) (by as_aux_lemma => kernel_rfl) (fun _ _ _ h => h) (Or.inl ⟨by rfl, ?_⟩) (by assumption) ?_
                rotate_left
                · intro w' hSw
                  try dsimp only at hSw
                  go_simp
                  try with_reducible rfl
                try simp only [Act.put, List.setIfInBounds_toArray, List.set_cons_zero, List.set_cons_succ]
                refine wpAnyH_take (i := 2) (oi := { dst := some 107, op := Op.binOp BinOp.eql 3 (Operand.tmp 106) (Operand.const (Value.int IntKind.i64 1)) 3, type := 4, pos := "law.go:174", after := #[{ on := 1, ground := Ground.data }], guard := none }) (v := ?_) rfl (by as_aux_lemma => kernel_rfl) (by as_aux_lemma => kernel_rfl) (by as_aux_lemma => kernel_rfl) (fun _ _ _ h => h) (Or.inl ⟨by rfl, ?_⟩) (by assumption) ?_
                rotate_left
                · intro w' hSw
                  try dsimp only at hSw
                  go_simp
                  try with_reducible rfl
                try simp only [Act.put, List.setIfInBounds_toArray, List.set_cons_zero, List.set_cons_succ]
                refine wpAnyH_take (i := 3) (oi := { dst := some 108, op := Op.move (Operand.tmp 107), type := 4, pos := "law.go:174", after := #[{ on := 2, ground := Ground.data }], guard := none }) (v := ?_) rfl (by as_aux_lemma => kernel_rfl) (by as_aux_lemma => kernel_rfl) (by as_aux_lemma => kernel_rfl) (fun _ _ _ h => h) (Or.inl ⟨by rfl, ?_⟩) (by assumption) ?_
                rotate_left
                · intro w' hSw
                  try dsimp only at hSw
                  go_simp
                  try with_reducible rfl
                try simp only [Act.put, List.setIfInBounds_toArray, List.set_cons_zero, List.set_cons_succ]
                refine wpAnyH_take (i := 4) (oi := { dst := some 109, op := Op.move (Operand.tmp 13), type := 50, pos := "law.go:174", after := #[{ on := 3, ground := Ground.guard }], guard := some (3, true) }) (v := ?_) rfl (by as_aux_lemma => kernel_rfl) (by as_aux_lemma => kernel_rfl) (by as_aux_lemma => kernel_rfl) (fun _ _ _ h => h) (Or.inl ⟨by rfl, ?_⟩) (by assumption) ?_
                rotate_left
                · intro w' hSw
                  try dsimp only at hSw
                  go_simp
                  try with_reducible rfl
                try simp only [Act.put, List.setIfInBounds_toArray, List.set_cons_zero, List.set_cons_succ]
                refine wpAnyH_take (i := 5) (oi := { dst := some 110, op := Op.indexAddr 50 (Operand.tmp 109) (Operand.const (Value.int IntKind.i64 0)), type := 0, pos := "law.go:174", after := #[{ on := 4, ground := Ground.data }, { on := 3, ground := Ground.guard }], guard := some (3, true) }) (v := ?_) rfl (by as_aux_lemma => kernel_rfl) (by as_aux_lemma => kernel_rfl) (by as_aux_lemma => kernel_rfl) (fun _ _ _ h => h) (Or.inl ⟨by rfl, ?_⟩) (by assumption) ?_
                rotate_left
                · intro w' hSw
                  try dsimp only at hSw
                  go_simp
                  try with_reducible rfl
                try simp only [Act.put, List.setIfInBounds_toArray, List.set_cons_zero, List.set_cons_succ]
                refine wpAnyH_take (i := 6) (oi := { dst := some 111, op := Op.fieldAddr 60 (Operand.tmp 110) 0, type := 0, pos := "law.go:174", after := #[{ on := 5, ground := Ground.data }, { on := 3, ground := Ground.guard }], guard := some (3, true) }) (v := ?_) rfl (by as_aux_lemma => kernel_rfl) (by as_aux_lemma => kernel_rfl) (by as_aux_lemma => kernel_rfl) (fun _ _ _ h => h) (Or.inl ⟨by rfl, ?_⟩) (by assumption) ?_
                rotate_left
                · intro w' hSw
                  try dsimp only at hSw
                  go_simp
                  try with_reducible rfl
                try simp only [Act.put, List.setIfInBounds_toArray, List.set_cons_zero, List.set_cons_succ]
                refine wpAnyH_take (i := 7) (oi := { dst := some 112, op := Op.load 3 (Operand.tmp 111), type := 3, pos := "law.go:174", after := #[{ on := 6, ground := Ground.data }, { on := 3, ground := Ground.guard }], guard := some (3, true) }) (v := ?_) rfl (by as_aux_lemma => kernel_rfl) (by as_aux_lemma => kernel_rfl) (by as_aux_lemma => kernel_rfl) (fun _ _ _ h => h) (Or.inl ⟨by rfl, ?_⟩) (by assumption) ?_
                rotate_left
                · intro w' hSw
                  try dsimp only at hSw
                  go_simp
                  try with_reducible rfl
                try simp only [Act.put, List.setIfInBounds_toArray, List.set_cons_zero, List.set_cons_succ]
                refine wpAnyH_take (i := 8) (oi := { dst := some 113, op := Op.binOp BinOp.eql 3 (Operand.tmp 112) (Operand.const (Value.int IntKind.i64 3)) 3, type := 4, pos := "law.go:174", after := #[{ on := 7, ground := Ground.data }, { on := 3, ground := Ground.guard }], guard := some (3, true) }) (v := ?_) rfl (by as_aux_lemma => kernel_rfl) (by as_aux_lemma => kernel_rfl) (by as_aux_lemma => kernel_rfl) (fun _ _ _ h => h) (Or.inl ⟨by rfl, ?_⟩) (by assumption) ?_
                rotate_left
                · intro w' hSw
                  try dsimp only at hSw
                  go_simp
                  try with_reducible rfl
                try simp only [Act.put, List.setIfInBounds_toArray, List.set_cons_zero, List.set_cons_succ]
                refine wpAnyH_take (i := 9) (oi := { dst := some 114, op := Op.pick (Operand.tmp 108) (Operand.tmp 113) (Operand.const (Value.bool false)), type := 4, pos := "law.go:174", after := #[{ on := 3, ground := Ground.data }, { on := 8, ground := Ground.data }], guard := none }) (v := ?_) rfl (by as_aux_lemma => kernel_rfl) (by as_aux_lemma => kernel_rfl) (by as_aux_lemma => kernel_rfl) (fun _ _ _ h => h) (Or.inl ⟨by rfl, ?_⟩) (by assumption) ?_
                rotate_left
                · intro w' hSw
                  try dsimp only at hSw
                  go_simp
                  try with_reducible rfl
                try simp only [Act.put, List.setIfInBounds_toArray, List.set_cons_zero, List.set_cons_succ]
                refine wpAnyH_take (i := 10) (oi := { dst := some 115, op := Op.move (Operand.tmp 114), type := 4, pos := "law.go:174", after := #[{ on := 9, ground := Ground.data }, { on := 3, ground := Ground.chain }], guard := none }) (v := ?_) rfl (by as_aux_lemma => kernel_rfl) (by as_aux_lemma => kernel_rfl) (by as_aux_lemma => kernel_rfl) (fun _ _ _ h => h) (Or.inl ⟨by rfl, ?_⟩) (by assumption) ?_
                rotate_left
                · intro w' hSw
                  try dsimp only at hSw
                  go_simp
                  try with_reducible rfl
                try simp only [Act.put, List.setIfInBounds_toArray, List.set_cons_zero, List.set_cons_succ]
                refine wpAnyH_take (i := 11) (oi := { dst := some 116, op := Op.move (Operand.tmp 13), type := 50, pos := "law.go:174", after := #[{ on := 10, ground := Ground.guard }], guard := some (10, true) }) (v := ?_) rfl (by as_aux_lemma => kernel_rfl) (by as_aux_lemma => kernel_rfl) (by as_aux_lemma => kernel_rfl) (fun _ _ _ h => h) (Or.inl ⟨by rfl, ?_⟩) (by assumption) ?_
                rotate_left
                · intro w' hSw
                  try dsimp only at hSw
                  go_simp
                  try with_reducible rfl
                try simp only [Act.put, List.setIfInBounds_toArray, List.set_cons_zero, List.set_cons_succ]
                refine wpAnyH_take (i := 12) (oi := { dst := some 117, op := Op.indexAddr 50 (Operand.tmp 116) (Operand.const (Value.int IntKind.i64 0)), type := 0, pos := "law.go:174", after := #[{ on := 11, ground := Ground.data }, { on := 10, ground := Ground.guard }], guard := some (10, true) }) (v := ?_) rfl (by as_aux_lemma => kernel_rfl) (by as_aux_lemma => kernel_rfl) (by as_aux_lemma => kernel_rfl) (fun _ _ _ h => h) (Or.inl ⟨by rfl, ?_⟩) (by assumption) ?_
                rotate_left
                · intro w' hSw
                  try dsimp only at hSw
                  go_simp
                  try with_reducible rfl
                try simp only [Act.put, List.setIfInBounds_toArray, List.set_cons_zero, List.set_cons_succ]
                refine wpAnyH_take (i := 13) (oi := { dst := some 118, op := Op.fieldAddr 60 (Operand.tmp 117) 6, type := 0, pos := "law.go:174", after := #[{ on := 12, ground := Ground.data }, { on := 10, ground := Ground.guard }], guard := some (10, true) }) (v := ?_) rfl (by as_aux_lemma => kernel_rfl) (by as_aux_lemma => kernel_rfl) (by as_aux_lemma => kernel_rfl) (fun _ _ _ h => h) (Or.inl ⟨by rfl, ?_⟩) (by assumption) ?_
                rotate_left
                · intro w' hSw
                  try dsimp only at hSw
                  go_simp
                  try with_reducible rfl
                try simp only [Act.put, List.setIfInBounds_toArray, List.set_cons_zero, List.set_cons_succ]
                refine wpAnyH_take (i := 14) (oi := { dst := some 119, op := Op.load 46 (Operand.tmp 118), type := 46, pos := "law.go:174", after := #[{ on := 13, ground := Ground.data }, { on := 10, ground := Ground.guard }], guard := some (10, true) }) (v := ?_) rfl (by as_aux_lemma => kernel_rfl) (by as_aux_lemma => kernel_rfl) (by as_aux_lemma => kernel_rfl) (fun _ _ _ h => h) (Or.inl ⟨by rfl, ?_⟩) (by assumption) ?_
                rotate_left
                · intro w' hSw
                  try dsimp only at hSw
                  go_simp
                  try with_reducible rfl
                try simp only [Act.put, List.setIfInBounds_toArray, List.set_cons_zero, List.set_cons_succ]
                refine wpAnyH_take (i := 15) (oi := { dst := some 120, op := Op.fieldAddr 48 (Operand.tmp 5) 0, type := 0, pos := "law.go:174", after := #[{ on := 10, ground := Ground.guard }], guard := some (10, true) }) (v := ?_) rfl (by as_aux_lemma => kernel_rfl) (by as_aux_lemma => kernel_rfl) (by as_aux_lemma => kernel_rfl) (fun _ _ _ h => h) (Or.inl ⟨by rfl, ?_⟩) (by assumption) ?_
                rotate_left
                · intro w' hSw
                  try dsimp only at hSw
                  go_simp
                  try with_reducible rfl
                try simp only [Act.put, List.setIfInBounds_toArray, List.set_cons_zero, List.set_cons_succ]
                refine wpAnyH_take (i := 16) (oi := { dst := some 121, op := Op.load 46 (Operand.tmp 120), type := 46, pos := "law.go:174", after := #[{ on := 15, ground := Ground.data }, { on := 10, ground := Ground.guard }], guard := some (10, true) }) (v := ?_) rfl (by as_aux_lemma => kernel_rfl) (by as_aux_lemma => kernel_rfl) (by as_aux_lemma => kernel_rfl) (fun _ _ _ h => h) (Or.inl ⟨by rfl, ?_⟩) (by assumption) ?_
                rotate_left
                · intro w' hSw
                  try dsimp only at hSw
                  go_simp
                  try with_reducible rfl
                try simp only [Act.put, List.setIfInBounds_toArray, List.set_cons_zero, List.set_cons_succ]
                refine wpAnyH_ready (rs := [17]) (by as_aux_lemma => kernel_rfl) (by simp) ?_
                refine AllReadyH.cons (o := { dst := some 122, op := Op.call { callee := Callee.value (Operand.func 33), args := #[Operand.tmp 119, Operand.tmp 121], argTypes := #[46, 46] }, type := 4, pos := "law.go:174", after := #[{ on := 14, ground := Ground.data }, { on := 16, ground := Ground.data }, { on := 10, ground := Ground.chain }, { on := 10, ground := Ground.guard }], guard := some (10, true) }) rfl (fun Kx hK => ?_) AllReadyH.nil
                go_simp
                refine (tsame_eq (YT.out.later K0.out) (T.out.later K0.out) (Lib.hid (tSame_iff.2 rfl))).mono ?_
                rintro e z11001 ⟨rfl, bz11001⟩
                have K11001 := Lib.hid (below2Z K0.out bz11001)
                have D11001 := Lib.hid (heldB_up K11001.out D0.out)
                clear bz11001
                go_wp2_with fail
                refine hK.out _ _ ?_ (fun hHeld2 => ?_)
                · exact D11001.out
                clear hK Kx hHeld
                have hHeld := hHeld2
                clear hHeld2
                try simp only [Act.put, List.setIfInBounds_toArray, List.set_cons_zero, List.set_cons_succ]
                refine wpAnyH_take (i := 18) (oi := { dst := some 123, op := Op.pick (Operand.tmp 115) (Operand.tmp 122) (Operand.const (Value.bool false)), type := 4, pos := "law.go:174", after := #[{ on := 10, ground := Ground.data }, { on := 17, ground := Ground.data }], guard := none }) (v := ?_) rfl (by as_aux_lemma => kernel_rfl) (by as_aux_lemma => kernel_rfl) (by as_aux_lemma => kernel_rfl) (fun _ _ _ h => h) (Or.inl ⟨by rfl, ?_⟩) (by assumption) ?_
                rotate_left
                · intro w' hSw
                  try dsimp only at hSw
                  go_simp
                  try with_reducible rfl
                try simp only [Act.put, List.setIfInBounds_toArray, List.set_cons_zero, List.set_cons_succ]
                refine wpAnyH_take (i := 19) (oi := { dst := some 124, op := Op.move (Operand.tmp 123), type := 4, pos := "law.go:174", after := #[{ on := 18, ground := Ground.data }, { on := 17, ground := Ground.chain }], guard := none }) (v := ?_) rfl (by as_aux_lemma => kernel_rfl) (by as_aux_lemma => kernel_rfl) (by as_aux_lemma => kernel_rfl) (fun _ _ _ h => h) (Or.inl ⟨by rfl, ?_⟩) (by assumption) ?_
                rotate_left
                · intro w' hSw
                  try dsimp only at hSw
                  go_simp
                  try with_reducible rfl
                try simp only [Act.put, List.setIfInBounds_toArray, List.set_cons_zero, List.set_cons_succ]
                refine wpAnyH_take (i := 20) (oi := { dst := some 125, op := Op.move (Operand.tmp 13), type := 50, pos := "law.go:174", after := #[{ on := 19, ground := Ground.guard }], guard := some (19, true) }) (v := ?_) rfl (by as_aux_lemma => kernel_rfl) (by as_aux_lemma => kernel_rfl) (by as_aux_lemma => kernel_rfl) (fun _ _ _ h => h) (Or.inl ⟨by rfl, ?_⟩) (by assumption) ?_
                rotate_left
                · intro w' hSw
                  try dsimp only at hSw
                  go_simp
                  try with_reducible rfl
                try simp only [Act.put, List.setIfInBounds_toArray, List.set_cons_zero, List.set_cons_succ]
                refine wpAnyH_take (i := 21) (oi := { dst := some 126, op := Op.indexAddr 50 (Operand.tmp 125) (Operand.const (Value.int IntKind.i64 0)), type := 0, pos := "law.go:174", after := #[{ on := 20, ground := Ground.data }, { on := 19, ground := Ground.guard }], guard := some (19, true) }) (v := ?_) rfl (by as_aux_lemma => kernel_rfl) (by as_aux_lemma => kernel_rfl) (by as_aux_lemma => kernel_rfl) (fun _ _ _ h => h) (Or.inl ⟨by rfl, ?_⟩) (by assumption) ?_
                rotate_left
                · intro w' hSw
                  try dsimp only at hSw
                  go_simp
                  try with_reducible rfl
                try simp only [Act.put, List.setIfInBounds_toArray, List.set_cons_zero, List.set_cons_succ]
                refine wpAnyH_take (i := 22) (oi := { dst := some 127, op := Op.fieldAddr 60 (Operand.tmp 126) 1, type := 0, pos := "law.go:174", after := #[{ on := 21, ground := Ground.data }, { on := 19, ground := Ground.guard }], guard := some (19, true) }) (v := ?_) rfl (by as_aux_lemma => kernel_rfl) (by as_aux_lemma => kernel_rfl) (by as_aux_lemma => kernel_rfl) (fun _ _ _ h => h) (Or.inl ⟨by rfl, ?_⟩) (by assumption) ?_
                rotate_left
                · intro w' hSw
                  try dsimp only at hSw
                  go_simp
                  try with_reducible rfl
                try simp only [Act.put, List.setIfInBounds_toArray, List.set_cons_zero, List.set_cons_succ]
                refine wpAnyH_take (i := 23) (oi := { dst := some 128, op := Op.load 3 (Operand.tmp 127), type := 3, pos := "law.go:174", after := #[{ on := 22, ground := Ground.data }, { on := 19, ground := Ground.guard }], guard := some (19, true) }) (v := ?_) rfl (by as_aux_lemma => kernel_rfl) (by as_aux_lemma => kernel_rfl) (by as_aux_lemma => kernel_rfl) (fun _ _ _ h => h) (Or.inl ⟨by rfl, ?_⟩) (by assumption) ?_
                rotate_left
                · intro w' hSw
                  try dsimp only at hSw
                  go_simp
                  try with_reducible rfl
                try simp only [Act.put, List.setIfInBounds_toArray, List.set_cons_zero, List.set_cons_succ]
                refine wpAnyH_take (i := 24) (oi := { dst := some 129, op := Op.fieldAddr 30 (Operand.tmp 4) 0, type := 0, pos := "law.go:174", after := #[{ on := 19, ground := Ground.guard }], guard := some (19, true) }) (v := ?_) rfl (by as_aux_lemma => kernel_rfl) (by as_aux_lemma => kernel_rfl) (by as_aux_lemma => kernel_rfl) (fun _ _ _ h => h) (Or.inl ⟨by rfl, ?_⟩) (by assumption) ?_
                rotate_left
                · intro w' hSw
                  try dsimp only at hSw
                  go_simp
                  try with_reducible rfl
                try simp only [Act.put, List.setIfInBounds_toArray, List.set_cons_zero, List.set_cons_succ]
                refine wpAnyH_take (i := 25) (oi := { dst := some 130, op := Op.load 3 (Operand.tmp 129), type := 3, pos := "law.go:174", after := #[{ on := 24, ground := Ground.data }, { on := 19, ground := Ground.guard }], guard := some (19, true) }) (v := ?_) rfl (by as_aux_lemma => kernel_rfl) (by as_aux_lemma => kernel_rfl) (by as_aux_lemma => kernel_rfl) (fun _ _ _ h => h) (Or.inl ⟨by rfl, ?_⟩) (by assumption) ?_
                rotate_left
                · intro w' hSw
                  try dsimp only at hSw
                  go_simp
                  try with_reducible rfl
                try simp only [Act.put, List.setIfInBounds_toArray, List.set_cons_zero, List.set_cons_succ]
                refine wpAnyH_take (i := 26) (oi := { dst := some 131, op := Op.binOp BinOp.eql 3 (Operand.tmp 128) (Operand.tmp 130) 3, type := 4, pos := "law.go:174", after := #[{ on := 23, ground := Ground.data }, { on := 25, ground := Ground.data }, { on := 19, ground := Ground.guard }], guard := some (19, true) }) (v := ?_) rfl (by as_aux_lemma => kernel_rfl) (by as_aux_lemma => kernel_rfl) (by as_aux_lemma => kernel_rfl) (fun _ _ _ h => h) (Or.inl ⟨by rfl, ?_⟩) (by assumption) ?_
                rotate_left
                · intro w' hSw
                  try dsimp only at hSw
                  go_simp
                  try with_reducible rfl
                try simp only [Act.put, List.setIfInBounds_toArray, List.set_cons_zero, List.set_cons_succ]
                refine wpAnyH_take (i := 27) (oi := { dst := some 132, op := Op.pick (Operand.tmp 124) (Operand.tmp 131) (Operand.const (Value.bool false)), type := 4, pos := "law.go:174", after := #[{ on := 19, ground := Ground.data }, { on := 26, ground := Ground.data }], guard := none }) (v := ?_) rfl (by as_aux_lemma => kernel_rfl) (by as_aux_lemma => kernel_rfl) (by as_aux_lemma => kernel_rfl) (fun _ _ _ h => h) (Or.inl ⟨by rfl, ?_⟩) (by assumption) ?_
                rotate_left
                · intro w' hSw
                  try dsimp only at hSw
                  go_simp
                  try with_reducible rfl
                try simp only [Act.put, List.setIfInBounds_toArray, List.set_cons_zero, List.set_cons_succ]
                refine wpAnyH_take (i := 28) (oi := { dst := some 133, op := Op.move (Operand.tmp 132), type := 4, pos := "law.go:174", after := #[{ on := 27, ground := Ground.data }, { on := 19, ground := Ground.chain }], guard := none }) (v := ?_) rfl (by as_aux_lemma => kernel_rfl) (by as_aux_lemma => kernel_rfl) (by as_aux_lemma => kernel_rfl) (fun _ _ _ h => h) (Or.inl ⟨by rfl, ?_⟩) (by assumption) ?_
                rotate_left
                · intro w' hSw
                  try dsimp only at hSw
                  go_simp
                  try with_reducible rfl
                try simp only [Act.put, List.setIfInBounds_toArray, List.set_cons_zero, List.set_cons_succ]
                refine wpAnyH_take (i := 29) (oi := { dst := some 134, op := Op.load 30 (Operand.tmp 12), type := 30, pos := "law.go:174", after := #[{ on := 28, ground := Ground.guard }], guard := some (28, true) }) (v := ?_) rfl (by as_aux_lemma => kernel_rfl) (by as_aux_lemma => kernel_rfl) (by as_aux_lemma => kernel_rfl) (fun _ _ _ h => h) (Or.inl ⟨by rfl, ?_⟩) (by assumption) ?_
                rotate_left
                · intro w' hSw
                  try dsimp only at hSw
                  go_simp
                  try with_reducible rfl
                try simp only [Act.put, List.setIfInBounds_toArray, List.set_cons_zero, List.set_cons_succ]
                refine wpAnyH_ready (rs := [30]) (by as_aux_lemma => kernel_rfl) (by simp) ?_
                refine AllReadyH.cons (o := { dst := some 135, op := Op.call { callee := Callee.value (Operand.func 16), args := #[Operand.tmp 134], argTypes := #[30] }, type := 4, pos := "law.go:174", after := #[{ on := 29, ground := Ground.data }, { on := 28, ground := Ground.chain }, { on := 28, ground := Ground.guard }], guard := some (28, true) }) rfl (fun Kx hK => ?_) AllReadyH.nil
                go_simp
                refine (lquiet_any (QB.out.later K11001.out) false false (seq + 1) bx bt now (Lib.hid (quiet_told _ _ _))).mono ?_
                rintro e z11002 ⟨rfl, bz11002⟩
                have K11002 := Lib.hid (below2Z K11001.out bz11002)
                have D11002 := Lib.hid (heldB_up K11002.out D0.out)
                clear bz11002
                go_wp2_with fail
                refine hK.out _ _ ?_ (fun hHeld2 => ?_)
                · exact D11002.out
                clear hK Kx hHeld
                have hHeld := hHeld2
                clear hHeld2
                try simp only [Act.put, List.setIfInBounds_toArray, List.set_cons_zero, List.set_cons_succ]
                refine wpAnyH_take (i := 31) (oi := { dst := some 136, op := Op.pick (Operand.tmp 133) (Operand.tmp 135) (Operand.const (Value.bool false)), type := 4, pos := "law.go:174", after := #[{ on := 28, ground := Ground.data }, { on := 30, ground := Ground.data }], guard := none }) (v := ?_) rfl (by as_aux_lemma => kernel_rfl) (by as_aux_lemma => kernel_rfl) (by as_aux_lemma => kernel_rfl) (fun _ _ _ h => h) (Or.inl ⟨by rfl, ?_⟩) (by assumption) ?_
                rotate_left
                · intro w' hSw
                  try dsimp only at hSw
                  go_simp
                  try with_reducible rfl
                try simp only [Act.put, List.setIfInBounds_toArray, List.set_cons_zero, List.set_cons_succ]
                refine wpAnyH_take (i := 32) (oi := { dst := some 137, op := Op.move (Operand.tmp 136), type := 4, pos := "law.go:174", after := #[{ on := 31, ground := Ground.data }, { on := 30, ground := Ground.chain }], guard := none }) (v := ?_) rfl (by as_aux_lemma => kernel_rfl) (by as_aux_lemma => kernel_rfl) (by as_aux_lemma => kernel_rfl) (fun _ _ _ h => h) (Or.inl ⟨by rfl, ?_⟩) (by assumption) ?_
                rotate_left
                · intro w' hSw
                  try dsimp only at hSw
                  go_simp
                  try with_reducible rfl
                try simp only [Act.put, List.setIfInBounds_toArray, List.set_cons_zero, List.set_cons_succ]
                refine wpAnyH_ready (rs := [33]) (by as_aux_lemma => kernel_rfl) (by simp) ?_
                refine AllReadyH.cons (o := { dst := some 138, op := Op.call { callee := Callee.value (Operand.func 10), args := #[], argTypes := #[] }, type := 4, pos := "law.go:174", after := #[{ on := 32, ground := Ground.chain }, { on := 32, ground := Ground.guard }], guard := some (32, true) }) rfl (fun Kx hK => ?_) AllReadyH.nil
                go_simp
                refine (live18 _).mono ?_
                rintro e z11003 ⟨rfl, bz11003⟩
                have K11003 := Lib.hid (below2Z K11002.out bz11003)
                have D11003 := Lib.hid (heldB_up K11003.out D0.out)
                clear bz11003
                go_wp2_with fail
                refine hK.out _ _ ?_ (fun hHeld2 => ?_)
                · exact D11003.out
                clear hK Kx hHeld
                have hHeld := hHeld2
                clear hHeld2
                try simp only [Act.put, List.setIfInBounds_toArray, List.set_cons_zero, List.set_cons_succ]
                refine wpAnyH_take (i := 34) (oi := { dst := some 139, op := Op.pick (Operand.tmp 137) (Operand.tmp 138) (Operand.const (Value.bool false)), type := 4, pos := "law.go:174", after := #[{ on := 32, ground := Ground.data }, { on := 33, ground := Ground.data }], guard := none }) (v := ?_) rfl (by as_aux_lemma => kernel_rfl) (by as_aux_lemma => kernel_rfl) (by as_aux_lemma => kernel_rfl) (fun _ _ _ h => h) (Or.inl ⟨by rfl, ?_⟩) (by assumption) ?_
                rotate_left
                · intro w' hSw
                  try dsimp only at hSw
                  go_simp
                  try with_reducible rfl
                try simp only [Act.put, List.setIfInBounds_toArray, List.set_cons_zero, List.set_cons_succ]
                refine wpAnyH_take (i := 35) (oi := { dst := some 6, op := Op.assign (Operand.tmp 139), type := 4, pos := "law.go:174", after := #[{ on := 34, ground := Ground.data }, { on := 33, ground := Ground.chain }, { on := 0, ground := Ground.phase }, { on := 1, ground := Ground.phase }, { on := 2, ground := Ground.phase }, { on := 3, ground := Ground.phase }, { on := 4, ground := Ground.phase }, { on := 5, ground := Ground.phase }, { on := 6, ground := Ground.phase }, { on := 7, ground := Ground.phase }, { on := 8, ground := Ground.phase }, { on := 9, ground := Ground.phase }, { on := 10, ground := Ground.phase }, { on := 11, ground := Ground.phase }, { on := 12, ground := Ground.phase }, { on := 13, ground := Ground.phase }, { on := 14, ground := Ground.phase }, { on := 15, ground := Ground.phase }, { on := 16, ground := Ground.phase }, { on := 17, ground := Ground.phase }, { on := 18, ground := Ground.phase }, { on := 19, ground := Ground.phase }, { on := 20, ground := Ground.phase }, { on := 21, ground := Ground.phase }, { on := 22, ground := Ground.phase }, { on := 23, ground := Ground.phase }, { on := 24, ground := Ground.phase }, { on := 25, ground := Ground.phase }, { on := 26, ground := Ground.phase }, { on := 27, ground := Ground.phase }, { on := 28, ground := Ground.phase }, { on := 29, ground := Ground.phase }, { on := 30, ground := Ground.phase }, { on := 31, ground := Ground.phase }, { on := 32, ground := Ground.phase }, { on := 33, ground := Ground.phase }, { on := 34, ground := Ground.phase }], guard := none }) (v := ?_) rfl (by as_aux_lemma => kernel_rfl) (by as_aux_lemma => kernel_rfl) (by as_aux_lemma => kernel_rfl) (fun _ _ _ h => h) (Or.inl ⟨by rfl, ?_⟩) (by assumption) ?_
                rotate_left
                · intro w' hSw
                  try dsimp only at hSw
                  go_simp
                  try with_reducible rfl
                try simp only [Act.put, List.setIfInBounds_toArray, List.set_cons_zero, List.set_cons_succ]
                refine wpAnyH_done (by kernel_rfl) ?_ _
                replace HB := Lib.hid (below2Z HB.out (K11003.out))
                go_wp2_with fail
                go_ret
                exact ⟨rfl, HB.out⟩

theorem walkLinkTwice {w : World} (c : Cfg) (_ : CfgFit c) (seq : Int) (v : Value) (la : Bool) (tok at' : Int) (sn : Bool) (dg : Int) (_ : (Lit.int .i64 seq).wf = true) (hv : ∃ t : List Chg, Chgs w v t) (_ : (Lit.int .i64 tok).wf = true) (_ : (Lit.int .i64 at').wf = true) (_ : (Lit.int .i64 dg).wf = true) (vt : Value) (now : Int) (ht : ∃ t : List Row, Tab w vt t) (_ : (Lit.int .i64 now).wf = true) :
    Calls Tryz.prog 7 #[.agg #[.int .i64 c.room, .int .i64 c.burst, .int .i64 c.rate, .int .i64 c.per], .agg #[.int .i64 seq, v, .bool la, .int .i64 tok, .int .i64 at', .bool sn, .int .i64 dg], .agg #[vt, .int .i64 now]] w fun e w' => e = .returned (.bool true) ∧ Below w.heap.size w w' := by
  obtain ⟨ql, hq⟩ := hv
  obtain ⟨view, hw⟩ := ht
  exact ltw hq hw c.room c.burst c.rate c.per seq tok at' dg la sn now

end Go.Proofs.YtndicdomdndjaaaGreat

end

section

/-
  THE FRAME OF THE PROOF OF LinkTwice: for every input the law returns true, and each argument reads behind the call as it read before. No condition.
-/
namespace Go.Proofs.YtndicdomdndjaaaGreat.linkTwice
open Go.ChangeShapes Go.WideShapes Go.ChangeAt Go.RowKit
open Go.ChangeMaps (open_string shut_string)
set_option linter.unusedVariables false

theorem own : ownKnob Tryz.prog.godebug = none := by kernel_rfl
theorem laidOut : laidOutB Tryz.prog = true := by kernel_rfl

set_option maxRecDepth 100000 in
theorem lifted (os : Os) (started : os.Started) (H : Type) (enc : TypeId × Value → H) :
    ReturnsInHanded {} Tryz.checked os 7 .any (Rows.linkTwiceSpec.pre6 enc Tryz.prog Tryz.f7 Rows.linkTwiceRow.domain false) (Rows.linkTwiceSpec.post enc Tryz.prog Tryz.f7 false true false false) := by
  refine returnsInHanded_of_change (C := Tryz.checked) own started (by kernel_rfl) Tryz.func7
    (ChangeSpec.witness6 (enc := enc) (C := Tryz.checked) false ⟨#[], #[.agg #[.int .i64 0, .int .i64 0, .int .i64 0, .int .i64 0], .agg #[.int .i64 0, .slice none 0 0, .bool false, .int .i64 0, .int .i64 0, .bool false, .int .i64 0], .agg #[.slice none 0 0, .int .i64 0]], []⟩ 8 (by kernel_rfl) (by kernel_rfl) (by kernel_rfl) (by kernel_rfl)) ?_
  intro W base args ds gs before hval0 hW hcnd _
  have hval : ∀ (j : Nat) t v, Tryz.f7.params[j]? = some t → args[j]? = some v → Value.okWide Tryz.prog W .any base t v := hval0
  have hW' := hW
  obtain ⟨p, q, hA0, hV, rfl, hfz, hnd⟩ := hW
  have hA : DataW.TrodAll enc Tryz.prog W 0 (fun _ => true) true Tryz.f7.params.toList args.toList ds p := hA0
  rw [Tryz.params7] at hA hval
  obtain ⟨v0, vs0, d0, ds0, p0, q0, hargs, rfl, rfl, h0, r0⟩ := trodAll_cons hA
  obtain ⟨v1, vs1, d1, ds1, p1, q1, rfl, rfl, rfl, h1, r1⟩ := trodAll_cons r0
  obtain ⟨v2, vs2, d2, ds2, p2, q2, rfl, rfl, rfl, h2, r2⟩ := trodAll_cons r1
  obtain ⟨rfl, rfl, rfl⟩ := trodAll_nil r2
  obtain rfl : args = #[v0, v1, v2] := by cases args; simp_all
  obtain ⟨rfl, rfl⟩ := trodVars_none hV
  have k0 := h0
  have lt0 : ∀ x ∈ p0, x.block < W.heap.size := by obtain ⟨m, hm⟩ := k0; exact DataW.trod_lt m _ _ _ hm
  obtain ⟨a0, rfl, w0⟩ := open_cfg (hval 0 23 v0 rfl rfl) h0
  have k1 := h1
  have lt1 : ∀ x ∈ p1, x.block < W.heap.size := by obtain ⟨m, hm⟩ := k1; exact DataW.trod_lt m _ _ _ hm
  obtain ⟨g1_0, g1_1, g1_2, g1_3, g1_4, g1_5, g1_6, rfl, y1_0, y1_1, y1_2, y1_3, y1_4⟩ := open_lnk (hval 1 30 v1 rfl rfl) h1
  have k2 := h2
  have lt2 : ∀ x ∈ p2, x.block < W.heap.size := by obtain ⟨m, hm⟩ := k2; exact DataW.trod_lt m _ _ _ hm
  obtain ⟨g2_0, g2_1, rfl, y2_0, y2_1⟩ := open_lview (hval 2 48 v2 rfl rfl) h2
  clear hA0 hval0
  refine (walkLinkTwice (w := W) a0 w0 g1_0 g1_1 g1_2 g1_3 g1_4 g1_5 g1_6 y1_0 y1_1 y1_2 y1_3 y1_4 g2_0 g2_1 y2_0 y2_1).mono fun e W' ⟨he, bel⟩ => ?_
  subst he
  exact ⟨_, rfl, _, _, _, [], _, [], hW', trodAll_mk1 (shut_bool Tryz.underlying4 _), (trodAll_cons_mk (Below.trod laidOut (by kernel_rfl) (of_decide_eq_true (by kernel_rfl)) k0 bel lt0) (trodAll_cons_mk (Below.trod laidOut (by kernel_rfl) (of_decide_eq_true (by kernel_rfl)) k1 bel lt1) (trodAll_cons_mk (Below.trod laidOut (by kernel_rfl) (of_decide_eq_true (by kernel_rfl)) k2 bel lt2) trodAll_mk0))), rfl, bel.frame _, fun h => by cases h⟩

theorem over : Rows.linkTwiceRow.holds Tryz.pinned (OpenSpec.ofChange Rows.linkTwiceSpec) :=
  OpenClaim.holds_of_wide 7 Tryz.f7 rfl rfl rfl rfl rfl rfl rfl ⟨rfl, rfl, rfl, rfl, rfl⟩ rfl rfl rfl rfl rfl (by kernel_rfl) Tryz.func7 (by kernel_rfl)
    (of_decide_eq_true (by kernel_rfl)) (by unfold Func.isWrapper; first | (rw [if_pos (by decide +kernel)]; kernel_rfl) | (rw [if_neg (by decide +kernel)]; exact ⟨rfl, rfl⟩))
    (fun os started H enc _ => lifted os started H enc)

/-- THE STATEMENT. -/
theorem proved : Rows.LinkTwiceSaid := over
#print axioms proved
end Go.Proofs.YtndicdomdndjaaaGreat.linkTwice

end
