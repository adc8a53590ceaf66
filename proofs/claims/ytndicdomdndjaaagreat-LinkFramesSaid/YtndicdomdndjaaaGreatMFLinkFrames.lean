/-
  THE PROOF OF LinkFrames: for every input the law returns true, and each argument reads behind the call as it read before. No condition.
-/
import Derived.Test.YtndicdomdndjaaaGreatM08
import Derived.Deep.Cut
import Derived.Test.YtndicdomdndjaaaGreatM04
import Derived.Test.YtndicdomdndjaaaGreatRows
import Derived.ProofKit
import Derived.OpenShut
import Derived.ShutString
import Derived.ChangeOld
import Derived.SliceStrings
import Derived.Lib.SmallJoins

section

/-
  THE WALK OF LinkFrames.
-/
namespace Go.Proofs.YtndicdomdndjaaaGreat
open Go.RowKit

set_option maxHeartbeats 12800000 in
set_option maxRecDepth 1000000 in
theorem lfr {w : World} {v vt : Value} {ql : List Chg} {view : List Row} (hv : Chgs w v ql) (ht : Tab w vt view) (ca cb cd ce seq tok at' dg : Int) (la sn : Bool) (now : Int) :
    Calls Tryz.prog 5 #[.agg #[.int .i64 ca, .int .i64 cb, .int .i64 cd, .int .i64 ce], .agg #[.int .i64 seq, v, .bool la, .int .i64 tok, .int .i64 at', .bool sn, .int .i64 dg], .agg #[vt, .int .i64 now]] w fun e w' => e = .returned (.bool true) ∧ Below w.heap.size w w' := by
  obtain ⟨qn, hqn⟩ : ∃ n, ql.length = n := ⟨_, rfl⟩
  obtain ⟨ao, cap, rfl⟩ := chgs_shape hv hqn
  obtain ⟨vn, hvn⟩ : ∃ n, view.length = n := ⟨_, rfl⟩
  obtain ⟨ta, tc, rfl⟩ := tab_shapeL ht hvn
  have HVN := Lib.hid hvn
  obtain ⟨f1, hf1⟩ : ∃ r, fewC ql 30 = r := ⟨_, rfl⟩
  obtain ⟨f2, hf2⟩ : ∃ r, fewT view = r := ⟨_, rfl⟩
  obtain ⟨f3, hf3⟩ : ∃ r, lnMay ⟨ca, cb, cd, ce⟩ ⟨seq, ⟨ql, la⟩, ⟨tok, at'⟩, sn, dg⟩ = r := ⟨_, rfl⟩
  obtain ⟨f4, hf4⟩ : ∃ r, diMay view = r := ⟨_, rfl⟩
  obtain ⟨f5, hf5⟩ : ∃ r, pcTime now = r := ⟨_, rfl⟩
  have F1 := Lib.hid hf1
  have F2 := Lib.hid hf2
  have F3 := Lib.hid hf3
  have F4 := Lib.hid hf4
  have F5 := Lib.hid hf5
  clear hf1 hf2 hf3 hf4 hf5
  have b0 := bl_newZ w (.cells #[.int .i64 ca, .int .i64 cb, .int .i64 cd, .int .i64 ce] 23)
  have b1 := bl_newZ (w.alloc (.cells #[.int .i64 ca, .int .i64 cb, .int .i64 cd, .int .i64 ce] 23)) (.cells #[.int .i64 seq, .slice ao qn cap, .bool la, .int .i64 tok, .int .i64 at', .bool sn, .int .i64 dg] 30)
  have b2 := bl_newZ ((w.alloc (.cells #[.int .i64 ca, .int .i64 cb, .int .i64 cd, .int .i64 ce] 23)).alloc (.cells #[.int .i64 seq, .slice ao qn cap, .bool la, .int .i64 tok, .int .i64 at', .bool sn, .int .i64 dg] 30)) (.cells #[.slice ta vn tc, .int .i64 now] 48)
  have HB := Lib.hid (below2Z (below2Z b0 b1) b2)
  have V := Lib.hid (((hv.later b0).later b1).later b2)
  have T := Lib.hid (((ht.later b0).later b1).later b2)
  have CB := newQ w (.cells #[.int .i64 ca, .int .i64 cb, .int .i64 cd, .int .i64 ce] 23)
  replace CB := upQ CB b1
  replace CB := upQ CB b2
  replace CB := Lib.hid CB
  have LB := newQ (w.alloc (.cells #[.int .i64 ca, .int .i64 cb, .int .i64 cd, .int .i64 ce] 23)) (.cells #[.int .i64 seq, .slice ao qn cap, .bool la, .int .i64 tok, .int .i64 at', .bool sn, .int .i64 dg] 30)
  rw [World.size_alloc] at LB
  replace LB := upQ LB b2
  replace LB := Lib.hid LB
  have WB := newQ ((w.alloc (.cells #[.int .i64 ca, .int .i64 cb, .int .i64 cd, .int .i64 ce] 23)).alloc (.cells #[.int .i64 seq, .slice ao qn cap, .bool la, .int .i64 tok, .int .i64 at', .bool sn, .int .i64 dg] 30)) (.cells #[.slice ta vn tc, .int .i64 now] 48)
  rw [World.size_alloc, World.size_alloc] at WB
  replace WB := Lib.hid WB
  clear b0 b1 b2
  clear hv hqn ht hvn
  go_enter Tryz.func5, Tryz.ntmps5
  go_upto_region 1 with fail
  generalize ((w.alloc (.cells #[.int .i64 ca, .int .i64 cb, .int .i64 cd, .int .i64 ce] 23)).alloc (.cells #[.int .i64 seq, .slice ao qn cap, .bool la, .int .i64 tok, .int .i64 at', .bool sn, .int .i64 dg] 30)).alloc (.cells #[.slice ta vn tc, .int .i64 now] 48) = w4 at CB LB WB V T HB ⊢
  obtain ⟨⟨LBc0, LBc1, LBc2, LBc3, LBc4, LBc5, LBc6⟩, ⟨LBf0, LBf1, LBf2, LBf3, LBf4, LBf5, LBf6⟩⟩ := blk7 LB.out
  go_wp2_with fail
  clear LBc0 LBc1 LBc2 LBc3 LBc4 LBc5 LBc6 LBf0 LBf1 LBf2 LBf3 LBf4 LBf5 LBf6
  refine (rlfew_any V.out la sn seq tok at' dg F1).mono ?_
  rintro e w5 ⟨rfl, b5⟩
  replace CB := Lib.hid (upQ CB.out b5)
  replace LB := Lib.hid (upQ LB.out b5)
  replace WB := Lib.hid (upQ WB.out b5)
  replace V := Lib.hid (V.out.later b5)
  replace T := Lib.hid (T.out.later b5)
  replace HB := Lib.hid (below2Z HB.out b5)
  clear b5
  cases f1 with
  | false =>
    go_wp2_with fail
    refine (live18 _).mono ?_
    rintro e w506 ⟨rfl, b506⟩
    replace HB := Lib.hid (below2Z HB.out b506)
    clear b506
    go_wp2_with fail
    go_ret
    exact ⟨rfl, HB.out⟩
  | true =>
    have HS := Lib.hid (fewC_short F1.out)
    have hql := (fewC_get F1.out).1
    have hq30 : ql.length ≤ 30 := by omega
    clear hql F1
    obtain ⟨⟨WBc0, WBc1⟩, ⟨WBf0, WBf1⟩⟩ := blk2 WB.out
    go_wp2_with fail
    clear WBc0 WBc1 WBf0 WBf1
    refine (fewt_eqL T.out F2).mono ?_
    rintro e w6 ⟨rfl, b6⟩
    replace CB := Lib.hid (upQ CB.out b6)
    replace LB := Lib.hid (upQ LB.out b6)
    replace WB := Lib.hid (upQ WB.out b6)
    replace V := Lib.hid (V.out.later b6)
    replace T := Lib.hid (T.out.later b6)
    replace HB := Lib.hid (below2Z HB.out b6)
    clear b6
    cases f2 with
    | false =>
      go_wp2_with fail
      refine (live18 _).mono ?_
      rintro e w507 ⟨rfl, b507⟩
      replace HB := Lib.hid (below2Z HB.out b507)
      clear b507
      go_wp2_with fail
      go_ret
      exact ⟨rfl, HB.out⟩
    | true =>
      have HH := Lib.hid (fewT_short F2.out)
      clear F2
      obtain ⟨⟨CBc0, CBc1, CBc2, CBc3⟩, ⟨CBf0, CBf1, CBf2, CBf3⟩⟩ := blk4 CB.out
      obtain ⟨⟨LBc0, LBc1, LBc2, LBc3, LBc4, LBc5, LBc6⟩, ⟨LBf0, LBf1, LBf2, LBf3, LBf4, LBf5, LBf6⟩⟩ := blk7 LB.out
      go_wp2_with fail
      clear CBc0 CBc1 CBc2 CBc3 CBf0 CBf1 CBf2 CBf3 LBc0 LBc1 LBc2 LBc3 LBc4 LBc5 LBc6 LBf0 LBf1 LBf2 LBf3 LBf4 LBf5 LBf6
      refine (rlmay_any V.out HS.out (by omega) la sn seq tok at' dg ca cb cd ce F3).mono ?_
      rintro e w7 ⟨rfl, b7⟩
      replace CB := Lib.hid (upQ CB.out b7)
      replace LB := Lib.hid (upQ LB.out b7)
      replace WB := Lib.hid (upQ WB.out b7)
      replace V := Lib.hid (V.out.later b7)
      replace T := Lib.hid (T.out.later b7)
      replace HB := Lib.hid (below2Z HB.out b7)
      clear b7
      cases f3 with
      | false =>
        go_wp2_with fail
        refine (live18 _).mono ?_
        rintro e w508 ⟨rfl, b508⟩
        replace HB := Lib.hid (below2Z HB.out b508)
        clear b508
        go_wp2_with fail
        go_ret
        exact ⟨rfl, HB.out⟩
      | true =>
        obtain ⟨⟨WBc0, WBc1⟩, ⟨WBf0, WBf1⟩⟩ := blk2 WB.out
        go_wp2_with fail
        clear WBc0 WBc1 WBf0 WBf1
        refine (rdimay_eq T.out HH.out F4).mono ?_
        rintro e w8 ⟨rfl, b8⟩
        replace CB := Lib.hid (upQ CB.out b8)
        replace LB := Lib.hid (upQ LB.out b8)
        replace WB := Lib.hid (upQ WB.out b8)
        replace V := Lib.hid (V.out.later b8)
        replace T := Lib.hid (T.out.later b8)
        replace HB := Lib.hid (below2Z HB.out b8)
        clear b8
        cases f4 with
        | false =>
          go_wp2_with fail
          refine (live18 _).mono ?_
          rintro e w509 ⟨rfl, b509⟩
          replace HB := Lib.hid (below2Z HB.out b509)
          clear b509
          go_wp2_with fail
          go_ret
          exact ⟨rfl, HB.out⟩
        | true =>
          obtain ⟨⟨WBc0, WBc1⟩, ⟨WBf0, WBf1⟩⟩ := blk2 WB.out
          go_wp2_with fail
          clear WBc0 WBc1 WBf0 WBf1
          refine (rptime_eqL now F5 _).mono ?_
          rintro e w9 ⟨rfl, b9⟩
          replace CB := Lib.hid (upQ CB.out b9)
          replace LB := Lib.hid (upQ LB.out b9)
          replace WB := Lib.hid (upQ WB.out b9)
          replace V := Lib.hid (V.out.later b9)
          replace T := Lib.hid (T.out.later b9)
          replace HB := Lib.hid (below2Z HB.out b9)
          clear b9
          cases f5 with
          | false =>
            go_wp2_with fail
            refine (live18 _).mono ?_
            rintro e w510 ⟨rfl, b510⟩
            replace HB := Lib.hid (below2Z HB.out b510)
            clear b510
            go_wp2_with fail
            go_ret
            exact ⟨rfl, HB.out⟩
          | true =>
            by_cases hsq : 1099511627676 < seq
            case pos =>
              have t1 : decide (1099511627676 < seq) = true := by simp; omega
              obtain ⟨⟨LBc0, LBc1, LBc2, LBc3, LBc4, LBc5, LBc6⟩, ⟨LBf0, LBf1, LBf2, LBf3, LBf4, LBf5, LBf6⟩⟩ := blk7 LB.out
              go_wp2_with fail
              clear LBc0 LBc1 LBc2 LBc3 LBc4 LBc5 LBc6 LBf0 LBf1 LBf2 LBf3 LBf4 LBf5 LBf6 LB
              refine (live18 _).mono ?_
              rintro e w510 ⟨rfl, b510⟩
              replace HB := Lib.hid (below2Z HB.out b510)
              clear b510
              go_wp2_with fail
              go_ret
              exact ⟨rfl, HB.out⟩
            case neg =>
              have t1 : decide (1099511627676 < seq) = false := by simp; omega
              obtain ⟨⟨⟨ms, ⟨mq, ml⟩, ⟨mt, ma⟩, mn, md⟩, fs⟩, hE⟩ : ∃ p, lnEmit ⟨ca, cb, cd, ce⟩ ⟨seq, ⟨ql, la⟩, ⟨tok, at'⟩, sn, dg⟩ view now = p := ⟨_, rfl⟩
              obtain ⟨lv, hlv⟩ : ∃ r, pcLevel ⟨ca, cb, cd, ce⟩ ⟨tok, at'⟩ now = r := ⟨_, rfl⟩
              obtain ⟨fa1, fa2, fa3, fa4, fa5, fa6⟩ := frames_all F3.out F4.out F5.out (show seq ≤ 1099511627676 by omega) hE hlv
              simp only at fa1 fa2 fa3 fa6
              subst fa3
              obtain ⟨hmsc, hmq, -, hsq1, hmd0, hmd1⟩ := lnMay_short fa2
              simp only at hmsc hmq hsq1 hmd0 hmd1
              have hsq0 : 0 ≤ seq := (lnMay_short F3.out).2.2.1
              obtain ⟨qm, hqm⟩ : ∃ r, lnQuiet ⟨seq + fs.length, ⟨mq, ml⟩, ⟨mt, ma⟩, mn, md⟩ = r := ⟨_, rfl⟩
              rw [hqm] at fa6
              have hnow := pcTime_iff.1 F5.out
              have FA1 := Lib.hid fa1
              have FA2 := Lib.hid fa2
              have FA6 := Lib.hid fa6
              have QU := Lib.hid hqm
              have HLV := Lib.hid hlv
              have HE := Lib.hid hE
              have HSM := Lib.hid hmsc
              clear hE hlv fa1 fa2 fa6 hqm hmsc
              obtain ⟨⟨CBc0, CBc1, CBc2, CBc3⟩, ⟨CBf0, CBf1, CBf2, CBf3⟩⟩ := blk4 CB.out
              obtain ⟨⟨LBc0, LBc1, LBc2, LBc3, LBc4, LBc5, LBc6⟩, ⟨LBf0, LBf1, LBf2, LBf3, LBf4, LBf5, LBf6⟩⟩ := blk7 LB.out
              obtain ⟨⟨WBc0, WBc1⟩, ⟨WBf0, WBf1⟩⟩ := blk2 WB.out
              go_wp2_with fail
              clear CBc0 CBc1 CBc2 CBc3 CBf0 CBf1 CBf2 CBf3 LBc0 LBc1 LBc2 LBc3 LBc4 LBc5 LBc6 LBf0 LBf1 LBf2 LBf3 LBf4 LBf5 LBf6 WBc0 WBc1 WBf0 WBf1
              refine (lemit_eq V.out T.out HS.out (by omega) HH.out ca cb cd ce seq tok at' dg now la sn HE).mono ?_
              rintro e w10 ⟨uM, fvM, psM, rfl, hM, kM, mM, b10⟩
              replace CB := Lib.hid (upQ CB.out b10)
              replace LB := Lib.hid (upQ LB.out b10)
              replace WB := Lib.hid (upQ WB.out b10)
              replace V := Lib.hid (V.out.later b10)
              replace T := Lib.hid (T.out.later b10)
              replace HB := Lib.hid (below2Z HB.out b10)
              obtain ⟨nM, hnM⟩ : ∃ n, mq.length = n := ⟨_, rfl⟩
              obtain ⟨uMa, uMc, rfl⟩ := chgs_shape hM hnM
              obtain ⟨fa, fc, rfl, hFC⟩ := kf_cells kM mM
              have QM := Lib.hid hM
              have HFC := Lib.hid hFC
              clear hM hnM kM mM hFC
              clear b10
              have HBE := Lib.hid (Below.refl w10.heap.size w10)
              clear HE HS HH V T
              have b11 := bl_newZ w10 (.cells #[.int .i64 (seq + fs.length), .slice uMa nM uMc, .bool ml, .int .i64 mt, .int .i64 ma, .bool mn, .int .i64 md] 30)
              have L8 := newQ w10 (.cells #[.int .i64 (seq + fs.length), .slice uMa nM uMc, .bool ml, .int .i64 mt, .int .i64 ma, .bool mn, .int .i64 md] 30)
              have hL8 : w.heap.size ≤ w10.heap.size := HB.out.size
              replace CB := Lib.hid (upQ CB.out b11)
              replace LB := Lib.hid (upQ LB.out b11)
              replace WB := Lib.hid (upQ WB.out b11)
              replace QM := Lib.hid (Chgs.later QM.out b11)
              replace HBE := Lib.hid (below2Z HBE.out b11)
              replace HB := Lib.hid (below2Z HB.out b11)
              clear b11
              replace L8 := Lib.hid L8
              go_upto_region 4 with fail
              generalize w10.alloc (.cells #[.int .i64 (seq + fs.length), .slice uMa nM uMc, .bool ml, .int .i64 mt, .int .i64 ma, .bool mn, .int .i64 md] 30) = w12 at CB LB WB L8 QM HBE HB ⊢
              obtain ⟨⟨CBc0, CBc1, CBc2, CBc3⟩, ⟨CBf0, CBf1, CBf2, CBf3⟩⟩ := blk4 CB.out
              obtain ⟨⟨LBc0, LBc1, LBc2, LBc3, LBc4, LBc5, LBc6⟩, ⟨LBf0, LBf1, LBf2, LBf3, LBf4, LBf5, LBf6⟩⟩ := blk7 LB.out
              obtain ⟨⟨WBc0, WBc1⟩, ⟨WBf0, WBf1⟩⟩ := blk2 WB.out
              go_wp2_with fail
              clear CBc0 CBc1 CBc2 CBc3 CBf0 CBf1 CBf2 CBf3 LBc0 LBc1 LBc2 LBc3 LBc4 LBc5 LBc6 LBf0 LBf1 LBf2 LBf3 LBf4 LBf5 LBf6 WBc0 WBc1 WBf0 WBf1
              refine (rplevel_any ca cb cd ce tok at' now HLV _).mono ?_
              rintro e w13 ⟨rfl, b13⟩
              replace CB := Lib.hid (upQ CB.out b13)
              replace LB := Lib.hid (upQ LB.out b13)
              replace WB := Lib.hid (upQ WB.out b13)
              replace L8 := Lib.hid (upQ L8.out b13)
              replace QM := Lib.hid (Chgs.later QM.out b13)
              replace HBE := Lib.hid (below2Z HBE.out b13)
              replace HB := Lib.hid (below2Z HB.out b13)
              clear b13
              have t2 : decide (lv < (fs.length : Int)) = false := by simp; omega
              have t3 : ((seq + (fs.length : Int)) != (seq + (fs.length : Int))) = false := by simp
              obtain ⟨⟨CBc0, CBc1, CBc2, CBc3⟩, ⟨CBf0, CBf1, CBf2, CBf3⟩⟩ := blk4 CB.out
              obtain ⟨⟨L8c0, L8c1, L8c2, L8c3, L8c4, L8c5, L8c6⟩, ⟨L8f0, L8f1, L8f2, L8f3, L8f4, L8f5, L8f6⟩⟩ := blk7 L8.out
              go_wp2_with fail
              clear CBc0 CBc1 CBc2 CBc3 CBf0 CBf1 CBf2 CBf3 L8c0 L8c1 L8c2 L8c3 L8c4 L8c5 L8c6 L8f0 L8f1 L8f2 L8f3 L8f4 L8f5 L8f6
              refine (lmay_any QM.out HSM.out (by omega) ml mn (seq + fs.length) mt ma md ca cb cd ce FA2).mono ?_
              rintro e w14 ⟨rfl, b14⟩
              replace CB := Lib.hid (upQ CB.out b14)
              replace LB := Lib.hid (upQ LB.out b14)
              replace WB := Lib.hid (upQ WB.out b14)
              replace L8 := Lib.hid (upQ L8.out b14)
              replace QM := Lib.hid (Chgs.later QM.out b14)
              replace HBE := Lib.hid (below2Z HBE.out b14)
              replace HB := Lib.hid (below2Z HB.out b14)
              clear b14
              obtain ⟨⟨L8c0, L8c1, L8c2, L8c3, L8c4, L8c5, L8c6⟩, ⟨L8f0, L8f1, L8f2, L8f3, L8f4, L8f5, L8f6⟩⟩ := blk7 L8.out
              obtain ⟨⟨LBc0, LBc1, LBc2, LBc3, LBc4, LBc5, LBc6⟩, ⟨LBf0, LBf1, LBf2, LBf3, LBf4, LBf5, LBf6⟩⟩ := blk7 LB.out
              go_wp2_with fail
              clear L8c0 L8c1 L8c2 L8c3 L8c4 L8c5 L8c6 L8f0 L8f1 L8f2 L8f3 L8f4 L8f5 L8f6 LBc0 LBc1 LBc2 LBc3 LBc4 LBc5 LBc6 LBf0 LBf1 LBf2 LBf3 LBf4 LBf5 LBf6
              go_loopw [10] (fun i wr => ∃ j : Nat, j ≤ fs.length ∧ i = .int .i64 j ∧ Hid (Below w14.heap.size w14 wr)) (fun i _ => fs.length - (intOf i).toNat)
              case atStart => exact ⟨0, by omega, rfl, Lib.hid (Below.refl _ _)⟩
              case round =>
                obtain ⟨j, hj, rfl, HN⟩ := hrel
                have LBr := upQ LB.out HN.out
                by_cases hlt : j < fs.length
                case pos =>
                  obtain ⟨g, pa, pc, rfl, hc, ht⟩ := HFC.out j hlt
                  have hA := FA1.out j hlt
                  have hc2 := CellsAt.later (CellsAt.later hc HBE.out) HN.out
                  have ht2 := Tab.later (Tab.later ht HBE.out) HN.out
                  clear hc ht
                  generalize hfx : fs.getD j Frm.zero = f at hA hc2 ht2
                  clear hfx
                  obtain ⟨fk, fsq, fon, fcn, ⟨fsh, fpr, fsi, fst⟩, fsum, ft⟩ := f
                  obtain ⟨tl, htl⟩ : ∃ n, ft.length = n := ⟨_, rfl⟩
                  simp only at hA ht2
                  rw [htl] at ht2
                  have TN := Lib.hid ht2
                  obtain ⟨ha1, ha2, ha3, ha4, ha5⟩ := hA
                  subst ha3
                  have HM := Lib.hid (And.intro ha1 ha2)
                  have hkk : fk = 1 ∨ fk = 2 ∨ fk = 3 := by rcases frMay_ways ha1 ha2 with h | h | h <;> simp only at h <;> omega
                  obtain ⟨⟨lq0, -, -, -, -, -, -⟩, -⟩ := blk7 LBr
                  have fc0 := hc2 0 _ rfl
                  have fc1 := hc2 1 _ rfl
                  have fc2 := hc2 2 _ rfl
                  have fc3 := hc2 3 _ rfl
                  have fc4 := hc2 4 _ rfl
                  have fc5 := hc2 5 _ rfl
                  have fc6 := hc2 6 _ rfl
                  have fc7 := hc2 7 _ rfl
                  have fc8 := hc2 8 _ rfl
                  have fc9 := hc2 9 _ rfl
                  clear hc2
                  replace fc0 : wr.cell? ⟨g, j * 10, none⟩ = some (.int .i64 fk) := fc0
                  replace fc1 : wr.cell? ⟨g, j * 10 + 1, none⟩ = some (.int .i64 (seq + ↑j)) := fc1
                  replace fc2 : wr.cell? ⟨g, j * 10 + 2, none⟩ = some (.bool fon) := fc2
                  replace fc3 : wr.cell? ⟨g, j * 10 + 3, none⟩ = some (.string ⟨fcn.toArray⟩) := fc3
                  replace fc4 : wr.cell? ⟨g, j * 10 + 4, none⟩ = some (.int .i64 fsh) := fc4
                  replace fc5 : wr.cell? ⟨g, j * 10 + 5, none⟩ = some (.int .i64 fpr) := fc5
                  replace fc6 : wr.cell? ⟨g, j * 10 + 6, none⟩ = some (.int .i64 fsi) := fc6
                  replace fc7 : wr.cell? ⟨g, j * 10 + 7, none⟩ = some (.string ⟨fst.toArray⟩) := fc7
                  replace fc8 : wr.cell? ⟨g, j * 10 + 8, none⟩ = some (.int .u64 fsum) := fc8
                  replace fc9 : wr.cell? ⟨g, j * 10 + 9, none⟩ = some (.slice pa tl pc) := by rw [← htl]; exact fc9
                  clear htl ht2
                  rcases hkk with rfl | rfl | rfl
                  · clear ha4 ha5
                    have RM := Lib.hid fun (X : World) (h : Below wr.heap.size wr X) => rfrmay_yes (TN.out.later h) 1 (seq + ↑j) fon fcn fsh fpr fsi fst fsum HM
                    clear ha1 ha2 HM TN
                    have hw7 : IntKind.i64.wrap (seq + (j : Int)) = seq + (j : Int) := IntWalk.i64_in _ (by omega)
                    have t7 : (seq + (j : Int) != seq + (j : Int)) = false := by simp
                    go_upto_region 10 with fail
                    obtain ⟨BS, hBS⟩ : ∃ BS : List (Nat × List Value), BS = [] := ⟨_, rfl⟩
                    obtain ⟨CS, hCS⟩ : ∃ CS : List (Nat × Nat × Value), CS = [(g, j * 10, .int .i64 1), (g, j * 10 + 1, .int .i64 (seq + ↑j)), (g, j * 10 + 2, .bool fon), (g, j * 10 + 3, .string ⟨fcn.toArray⟩), (g, j * 10 + 4, .int .i64 fsh), (g, j * 10 + 5, .int .i64 fpr), (g, j * 10 + 6, .int .i64 fsi), (g, j * 10 + 7, .string ⟨fst.toArray⟩), (g, j * 10 + 8, .int .u64 fsum), (g, j * 10 + 9, .slice pa tl pc), ((w.heap.size + 1), 0, .int .i64 seq)] := ⟨_, rfl⟩
                    have D0 := Lib.hid (show heldC wr CS from by rw [hCS]; exact heldC_cons (fc0) (heldC_cons (fc1) (heldC_cons (fc2) (heldC_cons (fc3) (heldC_cons (fc4) (heldC_cons (fc5) (heldC_cons (fc6) (heldC_cons (fc7) (heldC_cons (fc8) (heldC_cons (fc9) (heldC_cons (lq0) (heldC_nil _))))))))))))
                    have hq0 : ∀ X, heldC X CS → X.cell? ⟨g, j * 10, none⟩ = some (.int .i64 1) := fun X hx => heldC_get hx (by rw [hCS]; simp)
                    have hq1 : ∀ X, heldC X CS → X.cell? ⟨g, j * 10 + 1, none⟩ = some (.int .i64 (seq + ↑j)) := fun X hx => heldC_get hx (by rw [hCS]; simp)
                    have hq2 : ∀ X, heldC X CS → X.cell? ⟨g, j * 10 + 2, none⟩ = some (.bool fon) := fun X hx => heldC_get hx (by rw [hCS]; simp)
                    have hq3 : ∀ X, heldC X CS → X.cell? ⟨g, j * 10 + 3, none⟩ = some (.string ⟨fcn.toArray⟩) := fun X hx => heldC_get hx (by rw [hCS]; simp)
                    have hq4 : ∀ X, heldC X CS → X.cell? ⟨g, j * 10 + 4, none⟩ = some (.int .i64 fsh) := fun X hx => heldC_get hx (by rw [hCS]; simp)
                    have hq5 : ∀ X, heldC X CS → X.cell? ⟨g, j * 10 + 5, none⟩ = some (.int .i64 fpr) := fun X hx => heldC_get hx (by rw [hCS]; simp)
                    have hq6 : ∀ X, heldC X CS → X.cell? ⟨g, j * 10 + 6, none⟩ = some (.int .i64 fsi) := fun X hx => heldC_get hx (by rw [hCS]; simp)
                    have hq7 : ∀ X, heldC X CS → X.cell? ⟨g, j * 10 + 7, none⟩ = some (.string ⟨fst.toArray⟩) := fun X hx => heldC_get hx (by rw [hCS]; simp)
                    have hq8 : ∀ X, heldC X CS → X.cell? ⟨g, j * 10 + 8, none⟩ = some (.int .u64 fsum) := fun X hx => heldC_get hx (by rw [hCS]; simp)
                    have hq9 : ∀ X, heldC X CS → X.cell? ⟨g, j * 10 + 9, none⟩ = some (.slice pa tl pc) := fun X hx => heldC_get hx (by rw [hCS]; simp)
                    have hq10 : ∀ X, heldC X CS → X.cell? ⟨(w.heap.size + 1), 0, none⟩ = some (.int .i64 seq) := fun X hx => heldC_get hx (by rw [hCS]; simp)
                    clear hCS
                    clear hBS
                    have K0 : Hid (Below wr.heap.size wr wr.drew) := Lib.hid (Below.refl _ _).drew
                    refine wp_region_held_drew (S := (fun X => heldC X CS)) (by kernel_rfl) ?_ (fun hHeld => ?_)
                    · exact heldC_up K0.out D0.out
                    generalize wr.drew = z0 at K0 hHeld ⊢
                    refine wpAnyH_take (i := 0) (oi := { dst := some 87, op := Op.move (Operand.tmp 8), type := 50, pos := "law.go:70", after := #[], guard := none }) (v := ?_) rfl (by as_aux_lemma => kernel_rfl) (by as_aux_lemma => kernel_rfl) (by as_aux_lemma => kernel_rfl) (fun _ _ _ h => h) (Or.inl ⟨by rfl, ?_⟩) (by assumption) ?_
                    rotate_left
                    · intro w' hSw
                      try dsimp only at hSw
                      go_simp
                      try with_reducible rfl
                    try simp only [Act.put, List.setIfInBounds_toArray, List.set_cons_zero, List.set_cons_succ]
                    refine wpAnyH_take (i := 1) (oi := { dst := some 88, op := Op.move (Operand.tmp 10), type := 3, pos := "law.go:70", after := #[], guard := none }) (v := ?_) rfl (by as_aux_lemma => kernel_rfl) (by as_aux_lemma => kernel_rfl) (by as_aux_lemma => kernel_rfl) (fun _ _ _ h => h) (Or.inl ⟨by rfl, ?_⟩) (by assumption) ?_
                    rotate_left
                    · intro w' hSw
                      try dsimp only at hSw
                      go_simp
                      try with_reducible rfl
                    try simp only [Act.put, List.setIfInBounds_toArray, List.set_cons_zero, List.set_cons_succ]
                    refine wpAnyH_take (i := 2) (oi := { dst := some 89, op := Op.indexAddr 50 (Operand.tmp 87) (Operand.tmp 88), type := 0, pos := "law.go:70", after := #[{ on := 0, ground := Ground.data }, { on := 1, ground := Ground.data }], guard := none }) (v := ?_) rfl (by as_aux_lemma => kernel_rfl) (by as_aux_lemma => kernel_rfl) (by as_aux_lemma => kernel_rfl) (fun _ _ _ h => h) (Or.inl ⟨by rfl, ?_⟩) (by assumption) ?_
                    rotate_left
                    · intro w' hSw
                      try dsimp only at hSw
                      go_simp
                      try with_reducible rfl
                    try simp only [Act.put, List.setIfInBounds_toArray, List.set_cons_zero, List.set_cons_succ]
                    refine wpAnyH_take (i := 3) (oi := { dst := some 90, op := Op.load 60 (Operand.tmp 89), type := 60, pos := "law.go:70", after := #[{ on := 2, ground := Ground.data }], guard := none }) (v := ?_) rfl (by as_aux_lemma => kernel_rfl) (by as_aux_lemma => kernel_rfl) (by as_aux_lemma => kernel_rfl) (fun _ _ _ h => h) (Or.inl ⟨by rfl, ?_⟩) (by assumption) ?_
                    rotate_left
                    · intro w' hSw
                      try dsimp only at hSw
                      go_simp
                      try with_reducible rfl
                    try simp only [Act.put, List.setIfInBounds_toArray, List.set_cons_zero, List.set_cons_succ]
                    refine wpAnyH_ready (rs := [4]) (by as_aux_lemma => kernel_rfl) (by simp) ?_
                    refine AllReadyH.cons (o := { dst := some 91, op := Op.call { callee := Callee.value (Operand.func 29), args := #[Operand.tmp 90], argTypes := #[60] }, type := 4, pos := "law.go:70", after := #[{ on := 3, ground := Ground.data }], guard := none }) rfl (fun Kx hK => ?_) AllReadyH.nil
                    go_simp
                    refine (RM.out _ K0.out).mono ?_
                    rintro e z11001 ⟨rfl, bz11001⟩
                    have K11001 := Lib.hid (below2Z K0.out bz11001)
                    have D11001 := Lib.hid (heldC_up K11001.out D0.out)
                    clear bz11001
                    go_wp2_with fail
                    refine hK.out _ _ ?_ (fun hHeld2 => ?_)
                    · exact D11001.out
                    clear hK Kx hHeld
                    have hHeld := hHeld2
                    clear hHeld2
                    try simp only [Act.put, List.setIfInBounds_toArray, List.set_cons_zero, List.set_cons_succ]
                    refine wpAnyH_take (i := 5) (oi := { dst := some 92, op := Op.unOp UnOp.not 4 (Operand.tmp 91), type := 4, pos := "law.go:70", after := #[{ on := 4, ground := Ground.data }], guard := none }) (v := ?_) rfl (by as_aux_lemma => kernel_rfl) (by as_aux_lemma => kernel_rfl) (by as_aux_lemma => kernel_rfl) (fun _ _ _ h => h) (Or.inl ⟨by rfl, ?_⟩) (by assumption) ?_
                    rotate_left
                    · intro w' hSw
                      try dsimp only at hSw
                      go_simp
                      try with_reducible rfl
                    try simp only [Act.put, List.setIfInBounds_toArray, List.set_cons_zero, List.set_cons_succ]
                    refine wpAnyH_take (i := 6) (oi := { dst := some 93, op := Op.move (Operand.tmp 92), type := 4, pos := "law.go:70", after := #[{ on := 5, ground := Ground.data }, { on := 4, ground := Ground.chain }], guard := none }) (v := ?_) rfl (by as_aux_lemma => kernel_rfl) (by as_aux_lemma => kernel_rfl) (by as_aux_lemma => kernel_rfl) (fun _ _ _ h => h) (Or.inl ⟨by rfl, ?_⟩) (by assumption) ?_
                    rotate_left
                    · intro w' hSw
                      try dsimp only at hSw
                      go_simp
                      try with_reducible rfl
                    try simp only [Act.put, List.setIfInBounds_toArray, List.set_cons_zero, List.set_cons_succ]
                    refine wpAnyH_take (i := 7) (oi := { dst := some 94, op := Op.move (Operand.tmp 8), type := 50, pos := "law.go:70", after := #[{ on := 6, ground := Ground.guard }], guard := some (6, false) }) (v := ?_) rfl (by as_aux_lemma => kernel_rfl) (by as_aux_lemma => kernel_rfl) (by as_aux_lemma => kernel_rfl) (fun _ _ _ h => h) (Or.inl ⟨by rfl, ?_⟩) (by assumption) ?_
                    rotate_left
                    · intro w' hSw
                      try dsimp only at hSw
                      go_simp
                      try with_reducible rfl
                    try simp only [Act.put, List.setIfInBounds_toArray, List.set_cons_zero, List.set_cons_succ]
                    refine wpAnyH_take (i := 8) (oi := { dst := some 95, op := Op.move (Operand.tmp 10), type := 3, pos := "law.go:70", after := #[{ on := 6, ground := Ground.guard }], guard := some (6, false) }) (v := ?_) rfl (by as_aux_lemma => kernel_rfl) (by as_aux_lemma => kernel_rfl) (by as_aux_lemma => kernel_rfl) (fun _ _ _ h => h) (Or.inl ⟨by rfl, ?_⟩) (by assumption) ?_
                    rotate_left
                    · intro w' hSw
                      try dsimp only at hSw
                      go_simp
                      try with_reducible rfl
                    try simp only [Act.put, List.setIfInBounds_toArray, List.set_cons_zero, List.set_cons_succ]
                    refine wpAnyH_take (i := 9) (oi := { dst := some 96, op := Op.indexAddr 50 (Operand.tmp 94) (Operand.tmp 95), type := 0, pos := "law.go:70", after := #[{ on := 7, ground := Ground.data }, { on := 8, ground := Ground.data }, { on := 6, ground := Ground.guard }], guard := some (6, false) }) (v := ?_) rfl (by as_aux_lemma => kernel_rfl) (by as_aux_lemma => kernel_rfl) (by as_aux_lemma => kernel_rfl) (fun _ _ _ h => h) (Or.inl ⟨by rfl, ?_⟩) (by assumption) ?_
                    rotate_left
                    · intro w' hSw
                      try dsimp only at hSw
                      go_simp
                      try with_reducible rfl
                    try simp only [Act.put, List.setIfInBounds_toArray, List.set_cons_zero, List.set_cons_succ]
                    refine wpAnyH_take (i := 10) (oi := { dst := some 97, op := Op.fieldAddr 60 (Operand.tmp 96) 1, type := 0, pos := "law.go:70", after := #[{ on := 9, ground := Ground.data }, { on := 6, ground := Ground.guard }], guard := some (6, false) }) (v := ?_) rfl (by as_aux_lemma => kernel_rfl) (by as_aux_lemma => kernel_rfl) (by as_aux_lemma => kernel_rfl) (fun _ _ _ h => h) (Or.inl ⟨by rfl, ?_⟩) (by assumption) ?_
                    rotate_left
                    · intro w' hSw
                      try dsimp only at hSw
                      go_simp
                      try with_reducible rfl
                    try simp only [Act.put, List.setIfInBounds_toArray, List.set_cons_zero, List.set_cons_succ]
                    refine wpAnyH_take (i := 11) (oi := { dst := some 98, op := Op.load 3 (Operand.tmp 97), type := 3, pos := "law.go:70", after := #[{ on := 10, ground := Ground.data }, { on := 6, ground := Ground.guard }], guard := some (6, false) }) (v := ?_) rfl (by as_aux_lemma => kernel_rfl) (by as_aux_lemma => kernel_rfl) (by as_aux_lemma => kernel_rfl) (fun _ _ _ h => h) (Or.inl ⟨by rfl, ?_⟩) (by assumption) ?_
                    rotate_left
                    · intro w' hSw
                      try dsimp only at hSw
                      go_simp
                      try with_reducible rfl
                    try simp only [Act.put, List.setIfInBounds_toArray, List.set_cons_zero, List.set_cons_succ]
                    refine wpAnyH_take (i := 12) (oi := { dst := some 99, op := Op.fieldAddr 30 (Operand.tmp 4) 0, type := 0, pos := "law.go:70", after := #[{ on := 6, ground := Ground.guard }], guard := some (6, false) }) (v := ?_) rfl (by as_aux_lemma => kernel_rfl) (by as_aux_lemma => kernel_rfl) (by as_aux_lemma => kernel_rfl) (fun _ _ _ h => h) (Or.inl ⟨by rfl, ?_⟩) (by assumption) ?_
                    rotate_left
                    · intro w' hSw
                      try dsimp only at hSw
                      go_simp
                      try with_reducible rfl
                    try simp only [Act.put, List.setIfInBounds_toArray, List.set_cons_zero, List.set_cons_succ]
                    refine wpAnyH_take (i := 13) (oi := { dst := some 100, op := Op.load 3 (Operand.tmp 99), type := 3, pos := "law.go:70", after := #[{ on := 12, ground := Ground.data }, { on := 6, ground := Ground.guard }], guard := some (6, false) }) (v := ?_) rfl (by as_aux_lemma => kernel_rfl) (by as_aux_lemma => kernel_rfl) (by as_aux_lemma => kernel_rfl) (fun _ _ _ h => h) (Or.inl ⟨by rfl, ?_⟩) (by assumption) ?_
                    rotate_left
                    · intro w' hSw
                      try dsimp only at hSw
                      go_simp
                      try with_reducible rfl
                    try simp only [Act.put, List.setIfInBounds_toArray, List.set_cons_zero, List.set_cons_succ]
                    refine wpAnyH_take (i := 14) (oi := { dst := some 101, op := Op.move (Operand.tmp 10), type := 3, pos := "law.go:70", after := #[{ on := 6, ground := Ground.guard }], guard := some (6, false) }) (v := ?_) rfl (by as_aux_lemma => kernel_rfl) (by as_aux_lemma => kernel_rfl) (by as_aux_lemma => kernel_rfl) (fun _ _ _ h => h) (Or.inl ⟨by rfl, ?_⟩) (by assumption) ?_
                    rotate_left
                    · intro w' hSw
                      try dsimp only at hSw
                      go_simp
                      try with_reducible rfl
                    try simp only [Act.put, List.setIfInBounds_toArray, List.set_cons_zero, List.set_cons_succ]
                    refine wpAnyH_take (i := 15) (oi := { dst := some 102, op := Op.binOp BinOp.add 3 (Operand.tmp 100) (Operand.tmp 101) 3, type := 3, pos := "law.go:70", after := #[{ on := 13, ground := Ground.data }, { on := 14, ground := Ground.data }, { on := 6, ground := Ground.guard }], guard := some (6, false) }) (v := ?_) rfl (by as_aux_lemma => kernel_rfl) (by as_aux_lemma => kernel_rfl) (by as_aux_lemma => kernel_rfl) (fun _ _ _ h => h) (Or.inl ⟨by rfl, ?_⟩) (by assumption) ?_
                    rotate_left
                    · intro w' hSw
                      try dsimp only at hSw
                      go_simp
                      try with_reducible rfl
                    try simp only [Act.put, List.setIfInBounds_toArray, List.set_cons_zero, List.set_cons_succ]
                    refine wpAnyH_take (i := 16) (oi := { dst := some 103, op := Op.binOp BinOp.neq 3 (Operand.tmp 98) (Operand.tmp 102) 3, type := 4, pos := "law.go:70", after := #[{ on := 11, ground := Ground.data }, { on := 15, ground := Ground.data }, { on := 6, ground := Ground.guard }], guard := some (6, false) }) (v := ?_) rfl (by as_aux_lemma => kernel_rfl) (by as_aux_lemma => kernel_rfl) (by as_aux_lemma => kernel_rfl) (fun _ _ _ h => h) (Or.inl ⟨by rfl, ?_⟩) (by assumption) ?_
                    rotate_left
                    · intro w' hSw
                      try dsimp only at hSw
                      go_simp
                      try with_reducible rfl
                    try simp only [Act.put, List.setIfInBounds_toArray, List.set_cons_zero, List.set_cons_succ]
                    refine wpAnyH_take (i := 17) (oi := { dst := some 104, op := Op.pick (Operand.tmp 93) (Operand.const (Value.bool true)) (Operand.tmp 103), type := 4, pos := "law.go:70", after := #[{ on := 6, ground := Ground.data }, { on := 16, ground := Ground.data }], guard := none }) (v := ?_) rfl (by as_aux_lemma => kernel_rfl) (by as_aux_lemma => kernel_rfl) (by as_aux_lemma => kernel_rfl) (fun _ _ _ h => h) (Or.inl ⟨by rfl, ?_⟩) (by assumption) ?_
                    rotate_left
                    · intro w' hSw
                      try dsimp only at hSw
                      go_simp
                      try with_reducible rfl
                    try simp only [Act.put, List.setIfInBounds_toArray, List.set_cons_zero, List.set_cons_succ]
                    refine wpAnyH_take (i := 18) (oi := { dst := some 105, op := Op.move (Operand.tmp 104), type := 4, pos := "law.go:70", after := #[{ on := 17, ground := Ground.data }, { on := 6, ground := Ground.chain }], guard := none }) (v := ?_) rfl (by as_aux_lemma => kernel_rfl) (by as_aux_lemma => kernel_rfl) (by as_aux_lemma => kernel_rfl) (fun _ _ _ h => h) (Or.inl ⟨by rfl, ?_⟩) (by assumption) ?_
                    rotate_left
                    · intro w' hSw
                      try dsimp only at hSw
                      go_simp
                      try with_reducible rfl
                    try simp only [Act.put, List.setIfInBounds_toArray, List.set_cons_zero, List.set_cons_succ]
                    refine wpAnyH_take (i := 19) (oi := { dst := some 106, op := Op.move (Operand.tmp 8), type := 50, pos := "law.go:70", after := #[{ on := 18, ground := Ground.guard }], guard := some (18, false) }) (v := ?_) rfl (by as_aux_lemma => kernel_rfl) (by as_aux_lemma => kernel_rfl) (by as_aux_lemma => kernel_rfl) (fun _ _ _ h => h) (Or.inl ⟨by rfl, ?_⟩) (by assumption) ?_
                    rotate_left
                    · intro w' hSw
                      try dsimp only at hSw
                      go_simp
                      try with_reducible rfl
                    try simp only [Act.put, List.setIfInBounds_toArray, List.set_cons_zero, List.set_cons_succ]
                    refine wpAnyH_take (i := 20) (oi := { dst := some 107, op := Op.move (Operand.tmp 10), type := 3, pos := "law.go:70", after := #[{ on := 18, ground := Ground.guard }], guard := some (18, false) }) (v := ?_) rfl (by as_aux_lemma => kernel_rfl) (by as_aux_lemma => kernel_rfl) (by as_aux_lemma => kernel_rfl) (fun _ _ _ h => h) (Or.inl ⟨by rfl, ?_⟩) (by assumption) ?_
                    rotate_left
                    · intro w' hSw
                      try dsimp only at hSw
                      go_simp
                      try with_reducible rfl
                    try simp only [Act.put, List.setIfInBounds_toArray, List.set_cons_zero, List.set_cons_succ]
                    refine wpAnyH_take (i := 21) (oi := { dst := some 108, op := Op.indexAddr 50 (Operand.tmp 106) (Operand.tmp 107), type := 0, pos := "law.go:70", after := #[{ on := 19, ground := Ground.data }, { on := 20, ground := Ground.data }, { on := 18, ground := Ground.guard }], guard := some (18, false) }) (v := ?_) rfl (by as_aux_lemma => kernel_rfl) (by as_aux_lemma => kernel_rfl) (by as_aux_lemma => kernel_rfl) (fun _ _ _ h => h) (Or.inl ⟨by rfl, ?_⟩) (by assumption) ?_
                    rotate_left
                    · intro w' hSw
                      try dsimp only at hSw
                      go_simp
                      try with_reducible rfl
                    try simp only [Act.put, List.setIfInBounds_toArray, List.set_cons_zero, List.set_cons_succ]
                    refine wpAnyH_take (i := 22) (oi := { dst := some 109, op := Op.fieldAddr 60 (Operand.tmp 108) 0, type := 0, pos := "law.go:70", after := #[{ on := 21, ground := Ground.data }, { on := 18, ground := Ground.guard }], guard := some (18, false) }) (v := ?_) rfl (by as_aux_lemma => kernel_rfl) (by as_aux_lemma => kernel_rfl) (by as_aux_lemma => kernel_rfl) (fun _ _ _ h => h) (Or.inl ⟨by rfl, ?_⟩) (by assumption) ?_
                    rotate_left
                    · intro w' hSw
                      try dsimp only at hSw
                      go_simp
                      try with_reducible rfl
                    try simp only [Act.put, List.setIfInBounds_toArray, List.set_cons_zero, List.set_cons_succ]
                    refine wpAnyH_take (i := 23) (oi := { dst := some 110, op := Op.load 3 (Operand.tmp 109), type := 3, pos := "law.go:70", after := #[{ on := 22, ground := Ground.data }, { on := 18, ground := Ground.guard }], guard := some (18, false) }) (v := ?_) rfl (by as_aux_lemma => kernel_rfl) (by as_aux_lemma => kernel_rfl) (by as_aux_lemma => kernel_rfl) (fun _ _ _ h => h) (Or.inl ⟨by rfl, ?_⟩) (by assumption) ?_
                    rotate_left
                    · intro w' hSw
                      try dsimp only at hSw
                      go_simp
                      try with_reducible rfl
                    try simp only [Act.put, List.setIfInBounds_toArray, List.set_cons_zero, List.set_cons_succ]
                    refine wpAnyH_take (i := 24) (oi := { dst := some 111, op := Op.binOp BinOp.eql 3 (Operand.tmp 110) (Operand.const (Value.int IntKind.i64 3)) 3, type := 4, pos := "law.go:70", after := #[{ on := 23, ground := Ground.data }, { on := 18, ground := Ground.guard }], guard := some (18, false) }) (v := ?_) rfl (by as_aux_lemma => kernel_rfl) (by as_aux_lemma => kernel_rfl) (by as_aux_lemma => kernel_rfl) (fun _ _ _ h => h) (Or.inl ⟨by rfl, ?_⟩) (by assumption) ?_
                    rotate_left
                    · intro w' hSw
                      try dsimp only at hSw
                      go_simp
                      try with_reducible rfl
                    try simp only [Act.put, List.setIfInBounds_toArray, List.set_cons_zero, List.set_cons_succ]
                    refine wpAnyH_take (i := 25) (oi := { dst := some 112, op := Op.move (Operand.tmp 111), type := 4, pos := "law.go:70", after := #[{ on := 24, ground := Ground.data }, { on := 18, ground := Ground.chain }, { on := 18, ground := Ground.guard }], guard := some (18, false) }) (v := ?_) rfl (by as_aux_lemma => kernel_rfl) (by as_aux_lemma => kernel_rfl) (by as_aux_lemma => kernel_rfl) (fun _ _ _ h => h) (Or.inl ⟨by rfl, ?_⟩) (by assumption) ?_
                    rotate_left
                    · intro w' hSw
                      try dsimp only at hSw
                      go_simp
                      try with_reducible rfl
                    try simp only [Act.put, List.setIfInBounds_toArray, List.set_cons_zero, List.set_cons_succ]
                    refine wpAnyH_take (i := 26) (oi := { dst := some 113, op := Op.move (Operand.tmp 10), type := 3, pos := "law.go:70", after := #[{ on := 25, ground := Ground.guard }], guard := some (25, true) }) (v := undef) rfl (by as_aux_lemma => kernel_rfl) (by as_aux_lemma => kernel_rfl) (by as_aux_lemma => kernel_rfl) (fun _ _ _ h => h) (Or.inr ⟨by rfl, rfl⟩) (by assumption) ?_
                    try simp only [Act.put, List.setIfInBounds_toArray, List.set_cons_zero, List.set_cons_succ]
                    refine wpAnyH_take (i := 27) (oi := { dst := some 114, op := Op.binOp BinOp.gtr 3 (Operand.tmp 113) (Operand.const (Value.int IntKind.i64 0)) 3, type := 4, pos := "law.go:70", after := #[{ on := 26, ground := Ground.data }, { on := 25, ground := Ground.guard }], guard := some (25, true) }) (v := undef) rfl (by as_aux_lemma => kernel_rfl) (by as_aux_lemma => kernel_rfl) (by as_aux_lemma => kernel_rfl) (fun _ _ _ h => h) (Or.inr ⟨by rfl, rfl⟩) (by assumption) ?_
                    try simp only [Act.put, List.setIfInBounds_toArray, List.set_cons_zero, List.set_cons_succ]
                    refine wpAnyH_take (i := 28) (oi := { dst := some 115, op := Op.pick (Operand.tmp 112) (Operand.tmp 114) (Operand.const (Value.bool false)), type := 4, pos := "law.go:70", after := #[{ on := 25, ground := Ground.data }, { on := 27, ground := Ground.data }, { on := 18, ground := Ground.guard }], guard := some (18, false) }) (v := ?_) rfl (by as_aux_lemma => kernel_rfl) (by as_aux_lemma => kernel_rfl) (by as_aux_lemma => kernel_rfl) (fun _ _ _ h => h) (Or.inl ⟨by rfl, ?_⟩) (by assumption) ?_
                    rotate_left
                    · intro w' hSw
                      try dsimp only at hSw
                      go_simp
                      try with_reducible rfl
                    try simp only [Act.put, List.setIfInBounds_toArray, List.set_cons_zero, List.set_cons_succ]
                    refine wpAnyH_take (i := 29) (oi := { dst := some 116, op := Op.pick (Operand.tmp 105) (Operand.const (Value.bool true)) (Operand.tmp 115), type := 4, pos := "law.go:70", after := #[{ on := 18, ground := Ground.data }, { on := 28, ground := Ground.data }], guard := none }) (v := ?_) rfl (by as_aux_lemma => kernel_rfl) (by as_aux_lemma => kernel_rfl) (by as_aux_lemma => kernel_rfl) (fun _ _ _ h => h) (Or.inl ⟨by rfl, ?_⟩) (by assumption) ?_
                    rotate_left
                    · intro w' hSw
                      try dsimp only at hSw
                      go_simp
                      try with_reducible rfl
                    try simp only [Act.put, List.setIfInBounds_toArray, List.set_cons_zero, List.set_cons_succ]
                    refine wpAnyH_take (i := 30) (oi := { dst := some 117, op := Op.move (Operand.tmp 116), type := 4, pos := "law.go:70", after := #[{ on := 29, ground := Ground.data }, { on := 25, ground := Ground.chain }], guard := none }) (v := ?_) rfl (by as_aux_lemma => kernel_rfl) (by as_aux_lemma => kernel_rfl) (by as_aux_lemma => kernel_rfl) (fun _ _ _ h => h) (Or.inl ⟨by rfl, ?_⟩) (by assumption) ?_
                    rotate_left
                    · intro w' hSw
                      try dsimp only at hSw
                      go_simp
                      try with_reducible rfl
                    try simp only [Act.put, List.setIfInBounds_toArray, List.set_cons_zero, List.set_cons_succ]
                    refine wpAnyH_take (i := 31) (oi := { dst := some 118, op := Op.move (Operand.tmp 8), type := 50, pos := "law.go:70", after := #[{ on := 30, ground := Ground.guard }], guard := some (30, false) }) (v := ?_) rfl (by as_aux_lemma => kernel_rfl) (by as_aux_lemma => kernel_rfl) (by as_aux_lemma => kernel_rfl) (fun _ _ _ h => h) (Or.inl ⟨by rfl, ?_⟩) (by assumption) ?_
                    rotate_left
                    · intro w' hSw
                      try dsimp only at hSw
                      go_simp
                      try with_reducible rfl
                    try simp only [Act.put, List.setIfInBounds_toArray, List.set_cons_zero, List.set_cons_succ]
                    refine wpAnyH_take (i := 32) (oi := { dst := some 119, op := Op.move (Operand.tmp 10), type := 3, pos := "law.go:70", after := #[{ on := 30, ground := Ground.guard }], guard := some (30, false) }) (v := ?_) rfl (by as_aux_lemma => kernel_rfl) (by as_aux_lemma => kernel_rfl) (by as_aux_lemma => kernel_rfl) (fun _ _ _ h => h) (Or.inl ⟨by rfl, ?_⟩) (by assumption) ?_
                    rotate_left
                    · intro w' hSw
                      try dsimp only at hSw
                      go_simp
                      try with_reducible rfl
                    try simp only [Act.put, List.setIfInBounds_toArray, List.set_cons_zero, List.set_cons_succ]
                    refine wpAnyH_take (i := 33) (oi := { dst := some 120, op := Op.indexAddr 50 (Operand.tmp 118) (Operand.tmp 119), type := 0, pos := "law.go:70", after := #[{ on := 31, ground := Ground.data }, { on := 32, ground := Ground.data }, { on := 30, ground := Ground.guard }], guard := some (30, false) }) (v := ?_) rfl (by as_aux_lemma => kernel_rfl) (by as_aux_lemma => kernel_rfl) (by as_aux_lemma => kernel_rfl) (fun _ _ _ h => h) (Or.inl ⟨by rfl, ?_⟩) (by assumption) ?_
                    rotate_left
                    · intro w' hSw
                      try dsimp only at hSw
                      go_simp
                      try with_reducible rfl
                    try simp only [Act.put, List.setIfInBounds_toArray, List.set_cons_zero, List.set_cons_succ]
                    refine wpAnyH_take (i := 34) (oi := { dst := some 121, op := Op.fieldAddr 60 (Operand.tmp 120) 0, type := 0, pos := "law.go:70", after := #[{ on := 33, ground := Ground.data }, { on := 30, ground := Ground.guard }], guard := some (30, false) }) (v := ?_) rfl (by as_aux_lemma => kernel_rfl) (by as_aux_lemma => kernel_rfl) (by as_aux_lemma => kernel_rfl) (fun _ _ _ h => h) (Or.inl ⟨by rfl, ?_⟩) (by assumption) ?_
                    rotate_left
                    · intro w' hSw
                      try dsimp only at hSw
                      go_simp
                      try with_reducible rfl
                    try simp only [Act.put, List.setIfInBounds_toArray, List.set_cons_zero, List.set_cons_succ]
                    refine wpAnyH_take (i := 35) (oi := { dst := some 122, op := Op.load 3 (Operand.tmp 121), type := 3, pos := "law.go:70", after := #[{ on := 34, ground := Ground.data }, { on := 30, ground := Ground.guard }], guard := some (30, false) }) (v := ?_) rfl (by as_aux_lemma => kernel_rfl) (by as_aux_lemma => kernel_rfl) (by as_aux_lemma => kernel_rfl) (fun _ _ _ h => h) (Or.inl ⟨by rfl, ?_⟩) (by assumption) ?_
                    rotate_left
                    · intro w' hSw
                      try dsimp only at hSw
                      go_simp
                      try with_reducible rfl
                    try simp only [Act.put, List.setIfInBounds_toArray, List.set_cons_zero, List.set_cons_succ]
                    refine wpAnyH_take (i := 36) (oi := { dst := some 123, op := Op.binOp BinOp.eql 3 (Operand.tmp 122) (Operand.const (Value.int IntKind.i64 2)) 3, type := 4, pos := "law.go:70", after := #[{ on := 35, ground := Ground.data }, { on := 30, ground := Ground.guard }], guard := some (30, false) }) (v := ?_) rfl (by as_aux_lemma => kernel_rfl) (by as_aux_lemma => kernel_rfl) (by as_aux_lemma => kernel_rfl) (fun _ _ _ h => h) (Or.inl ⟨by rfl, ?_⟩) (by assumption) ?_
                    rotate_left
                    · intro w' hSw
                      try dsimp only at hSw
                      go_simp
                      try with_reducible rfl
                    try simp only [Act.put, List.setIfInBounds_toArray, List.set_cons_zero, List.set_cons_succ]
                    refine wpAnyH_take (i := 37) (oi := { dst := some 124, op := Op.move (Operand.tmp 123), type := 4, pos := "law.go:70", after := #[{ on := 36, ground := Ground.data }, { on := 30, ground := Ground.chain }, { on := 30, ground := Ground.guard }], guard := some (30, false) }) (v := ?_) rfl (by as_aux_lemma => kernel_rfl) (by as_aux_lemma => kernel_rfl) (by as_aux_lemma => kernel_rfl) (fun _ _ _ h => h) (Or.inl ⟨by rfl, ?_⟩) (by assumption) ?_
                    rotate_left
                    · intro w' hSw
                      try dsimp only at hSw
                      go_simp
                      try with_reducible rfl
                    try simp only [Act.put, List.setIfInBounds_toArray, List.set_cons_zero, List.set_cons_succ]
                    refine wpAnyH_take (i := 38) (oi := { dst := some 125, op := Op.move (Operand.tmp 10), type := 3, pos := "law.go:70", after := #[{ on := 37, ground := Ground.guard }], guard := some (37, true) }) (v := undef) rfl (by as_aux_lemma => kernel_rfl) (by as_aux_lemma => kernel_rfl) (by as_aux_lemma => kernel_rfl) (fun _ _ _ h => h) (Or.inr ⟨by rfl, rfl⟩) (by assumption) ?_
                    try simp only [Act.put, List.setIfInBounds_toArray, List.set_cons_zero, List.set_cons_succ]
                    refine wpAnyH_take (i := 39) (oi := { dst := some 126, op := Op.move (Operand.tmp 8), type := 50, pos := "law.go:70", after := #[{ on := 37, ground := Ground.guard }], guard := some (37, true) }) (v := undef) rfl (by as_aux_lemma => kernel_rfl) (by as_aux_lemma => kernel_rfl) (by as_aux_lemma => kernel_rfl) (fun _ _ _ h => h) (Or.inr ⟨by rfl, rfl⟩) (by assumption) ?_
                    try simp only [Act.put, List.setIfInBounds_toArray, List.set_cons_zero, List.set_cons_succ]
                    refine wpAnyH_take (i := 40) (oi := { dst := some 127, op := Op.call { callee := Callee.builtin Builtin.len, args := #[Operand.tmp 126], argTypes := #[50] }, type := 3, pos := "law.go:70", after := #[{ on := 39, ground := Ground.data }, { on := 37, ground := Ground.guard }], guard := some (37, true) }) (v := undef) rfl (by as_aux_lemma => kernel_rfl) (by as_aux_lemma => kernel_rfl) (by as_aux_lemma => kernel_rfl) (fun _ _ _ h => h) (Or.inr ⟨by rfl, rfl⟩) (by assumption) ?_
                    try simp only [Act.put, List.setIfInBounds_toArray, List.set_cons_zero, List.set_cons_succ]
                    refine wpAnyH_take (i := 41) (oi := { dst := some 128, op := Op.binOp BinOp.sub 3 (Operand.tmp 127) (Operand.const (Value.int IntKind.i64 1)) 3, type := 3, pos := "law.go:70", after := #[{ on := 40, ground := Ground.data }, { on := 37, ground := Ground.guard }], guard := some (37, true) }) (v := undef) rfl (by as_aux_lemma => kernel_rfl) (by as_aux_lemma => kernel_rfl) (by as_aux_lemma => kernel_rfl) (fun _ _ _ h => h) (Or.inr ⟨by rfl, rfl⟩) (by assumption) ?_
                    try simp only [Act.put, List.setIfInBounds_toArray, List.set_cons_zero, List.set_cons_succ]
                    refine wpAnyH_take (i := 42) (oi := { dst := some 129, op := Op.binOp BinOp.neq 3 (Operand.tmp 125) (Operand.tmp 128) 3, type := 4, pos := "law.go:70", after := #[{ on := 38, ground := Ground.data }, { on := 41, ground := Ground.data }, { on := 37, ground := Ground.guard }], guard := some (37, true) }) (v := undef) rfl (by as_aux_lemma => kernel_rfl) (by as_aux_lemma => kernel_rfl) (by as_aux_lemma => kernel_rfl) (fun _ _ _ h => h) (Or.inr ⟨by rfl, rfl⟩) (by assumption) ?_
                    try simp only [Act.put, List.setIfInBounds_toArray, List.set_cons_zero, List.set_cons_succ]
                    refine wpAnyH_take (i := 43) (oi := { dst := some 130, op := Op.pick (Operand.tmp 124) (Operand.tmp 129) (Operand.const (Value.bool false)), type := 4, pos := "law.go:70", after := #[{ on := 37, ground := Ground.data }, { on := 42, ground := Ground.data }, { on := 30, ground := Ground.guard }], guard := some (30, false) }) (v := ?_) rfl (by as_aux_lemma => kernel_rfl) (by as_aux_lemma => kernel_rfl) (by as_aux_lemma => kernel_rfl) (fun _ _ _ h => h) (Or.inl ⟨by rfl, ?_⟩) (by assumption) ?_
                    rotate_left
                    · intro w' hSw
                      try dsimp only at hSw
                      go_simp
                      try with_reducible rfl
                    try simp only [Act.put, List.setIfInBounds_toArray, List.set_cons_zero, List.set_cons_succ]
                    refine wpAnyH_take (i := 44) (oi := { dst := some 131, op := Op.pick (Operand.tmp 117) (Operand.const (Value.bool true)) (Operand.tmp 130), type := 4, pos := "law.go:70", after := #[{ on := 30, ground := Ground.data }, { on := 43, ground := Ground.data }], guard := none }) (v := ?_) rfl (by as_aux_lemma => kernel_rfl) (by as_aux_lemma => kernel_rfl) (by as_aux_lemma => kernel_rfl) (fun _ _ _ h => h) (Or.inl ⟨by rfl, ?_⟩) (by assumption) ?_
                    rotate_left
                    · intro w' hSw
                      try dsimp only at hSw
                      go_simp
                      try with_reducible rfl
                    try simp only [Act.put, List.setIfInBounds_toArray, List.set_cons_zero, List.set_cons_succ]
                    refine wpAnyH_take (i := 45) (oi := { dst := some 132, op := Op.move (Operand.tmp 131), type := 4, pos := "law.go:70", after := #[{ on := 44, ground := Ground.data }, { on := 37, ground := Ground.chain }], guard := none }) (v := ?_) rfl (by as_aux_lemma => kernel_rfl) (by as_aux_lemma => kernel_rfl) (by as_aux_lemma => kernel_rfl) (fun _ _ _ h => h) (Or.inl ⟨by rfl, ?_⟩) (by assumption) ?_
                    rotate_left
                    · intro w' hSw
                      try dsimp only at hSw
                      go_simp
                      try with_reducible rfl
                    try simp only [Act.put, List.setIfInBounds_toArray, List.set_cons_zero, List.set_cons_succ]
                    refine wpAnyH_take (i := 46) (oi := { dst := some 133, op := Op.move (Operand.tmp 8), type := 50, pos := "law.go:70", after := #[{ on := 45, ground := Ground.guard }], guard := some (45, false) }) (v := ?_) rfl (by as_aux_lemma => kernel_rfl) (by as_aux_lemma => kernel_rfl) (by as_aux_lemma => kernel_rfl) (fun _ _ _ h => h) (Or.inl ⟨by rfl, ?_⟩) (by assumption) ?_
                    rotate_left
                    · intro w' hSw
                      try dsimp only at hSw
                      go_simp
                      try with_reducible rfl
                    try simp only [Act.put, List.setIfInBounds_toArray, List.set_cons_zero, List.set_cons_succ]
                    refine wpAnyH_take (i := 47) (oi := { dst := some 134, op := Op.move (Operand.tmp 10), type := 3, pos := "law.go:70", after := #[{ on := 45, ground := Ground.guard }], guard := some (45, false) }) (v := ?_) rfl (by as_aux_lemma => kernel_rfl) (by as_aux_lemma => kernel_rfl) (by as_aux_lemma => kernel_rfl) (fun _ _ _ h => h) (Or.inl ⟨by rfl, ?_⟩) (by assumption) ?_
                    rotate_left
                    · intro w' hSw
                      try dsimp only at hSw
                      go_simp
                      try with_reducible rfl
                    try simp only [Act.put, List.setIfInBounds_toArray, List.set_cons_zero, List.set_cons_succ]
                    refine wpAnyH_take (i := 48) (oi := { dst := some 135, op := Op.indexAddr 50 (Operand.tmp 133) (Operand.tmp 134), type := 0, pos := "law.go:70", after := #[{ on := 46, ground := Ground.data }, { on := 47, ground := Ground.data }, { on := 45, ground := Ground.guard }], guard := some (45, false) }) (v := ?_) rfl (by as_aux_lemma => kernel_rfl) (by as_aux_lemma => kernel_rfl) (by as_aux_lemma => kernel_rfl) (fun _ _ _ h => h) (Or.inl ⟨by rfl, ?_⟩) (by assumption) ?_
                    rotate_left
                    · intro w' hSw
                      try dsimp only at hSw
                      go_simp
                      try with_reducible rfl
                    try simp only [Act.put, List.setIfInBounds_toArray, List.set_cons_zero, List.set_cons_succ]
                    refine wpAnyH_take (i := 49) (oi := { dst := some 136, op := Op.fieldAddr 60 (Operand.tmp 135) 0, type := 0, pos := "law.go:70", after := #[{ on := 48, ground := Ground.data }, { on := 45, ground := Ground.guard }], guard := some (45, false) }) (v := ?_) rfl (by as_aux_lemma => kernel_rfl) (by as_aux_lemma => kernel_rfl) (by as_aux_lemma => kernel_rfl) (fun _ _ _ h => h) (Or.inl ⟨by rfl, ?_⟩) (by assumption) ?_
                    rotate_left
                    · intro w' hSw
                      try dsimp only at hSw
                      go_simp
                      try with_reducible rfl
                    try simp only [Act.put, List.setIfInBounds_toArray, List.set_cons_zero, List.set_cons_succ]
                    refine wpAnyH_take (i := 50) (oi := { dst := some 137, op := Op.load 3 (Operand.tmp 136), type := 3, pos := "law.go:70", after := #[{ on := 49, ground := Ground.data }, { on := 45, ground := Ground.guard }], guard := some (45, false) }) (v := ?_) rfl (by as_aux_lemma => kernel_rfl) (by as_aux_lemma => kernel_rfl) (by as_aux_lemma => kernel_rfl) (fun _ _ _ h => h) (Or.inl ⟨by rfl, ?_⟩) (by assumption) ?_
                    rotate_left
                    · intro w' hSw
                      try dsimp only at hSw
                      go_simp
                      try with_reducible rfl
                    try simp only [Act.put, List.setIfInBounds_toArray, List.set_cons_zero, List.set_cons_succ]
                    refine wpAnyH_take (i := 51) (oi := { dst := some 138, op := Op.binOp BinOp.eql 3 (Operand.tmp 137) (Operand.const (Value.int IntKind.i64 4)) 3, type := 4, pos := "law.go:70", after := #[{ on := 50, ground := Ground.data }, { on := 45, ground := Ground.guard }], guard := some (45, false) }) (v := ?_) rfl (by as_aux_lemma => kernel_rfl) (by as_aux_lemma => kernel_rfl) (by as_aux_lemma => kernel_rfl) (fun _ _ _ h => h) (Or.inl ⟨by rfl, ?_⟩) (by assumption) ?_
                    rotate_left
                    · intro w' hSw
                      try dsimp only at hSw
                      go_simp
                      try with_reducible rfl
                    try simp only [Act.put, List.setIfInBounds_toArray, List.set_cons_zero, List.set_cons_succ]
                    refine wpAnyH_take (i := 52) (oi := { dst := some 139, op := Op.pick (Operand.tmp 132) (Operand.const (Value.bool true)) (Operand.tmp 138), type := 4, pos := "law.go:70", after := #[{ on := 45, ground := Ground.data }, { on := 51, ground := Ground.data }], guard := none }) (v := ?_) rfl (by as_aux_lemma => kernel_rfl) (by as_aux_lemma => kernel_rfl) (by as_aux_lemma => kernel_rfl) (fun _ _ _ h => h) (Or.inl ⟨by rfl, ?_⟩) (by assumption) ?_
                    rotate_left
                    · intro w' hSw
                      try dsimp only at hSw
                      go_simp
                      try with_reducible rfl
                    try simp only [Act.put, List.setIfInBounds_toArray, List.set_cons_zero, List.set_cons_succ]
                    refine wpAnyH_done (by kernel_rfl) ?_ _
                    have HN2 := Lib.hid (below2Z HN.out (K11001.out))
                    go_wp2_with fail
                    go_roundw
                    case rel => exact ⟨j + 1, by omega, by go_num, HN2⟩
                    case measure => simp [intOf]; omega
                  · have hz := ha5 rfl
                    have t4 : ((j : Int) != (fs.length : Int) - 1) = false := by simp; omega
                    clear ha4 ha5
                    have RM := Lib.hid fun (X : World) (h : Below wr.heap.size wr X) => rfrmay_yes (TN.out.later h) 2 (seq + ↑j) fon fcn fsh fpr fsi fst fsum HM
                    clear ha1 ha2 HM TN
                    have hw7 : IntKind.i64.wrap (seq + (j : Int)) = seq + (j : Int) := IntWalk.i64_in _ (by omega)
                    have t7 : (seq + (j : Int) != seq + (j : Int)) = false := by simp
                    have hw8 : IntKind.i64.wrap ((fs.length : Int) - 1) = (fs.length : Int) - 1 := IntWalk.i64_in _ (by omega)
                    go_upto_region 10 with fail
                    obtain ⟨BS, hBS⟩ : ∃ BS : List (Nat × List Value), BS = [] := ⟨_, rfl⟩
                    obtain ⟨CS, hCS⟩ : ∃ CS : List (Nat × Nat × Value), CS = [(g, j * 10, .int .i64 2), (g, j * 10 + 1, .int .i64 (seq + ↑j)), (g, j * 10 + 2, .bool fon), (g, j * 10 + 3, .string ⟨fcn.toArray⟩), (g, j * 10 + 4, .int .i64 fsh), (g, j * 10 + 5, .int .i64 fpr), (g, j * 10 + 6, .int .i64 fsi), (g, j * 10 + 7, .string ⟨fst.toArray⟩), (g, j * 10 + 8, .int .u64 fsum), (g, j * 10 + 9, .slice pa tl pc), ((w.heap.size + 1), 0, .int .i64 seq)] := ⟨_, rfl⟩
                    have D0 := Lib.hid (show heldC wr CS from by rw [hCS]; exact heldC_cons (fc0) (heldC_cons (fc1) (heldC_cons (fc2) (heldC_cons (fc3) (heldC_cons (fc4) (heldC_cons (fc5) (heldC_cons (fc6) (heldC_cons (fc7) (heldC_cons (fc8) (heldC_cons (fc9) (heldC_cons (lq0) (heldC_nil _))))))))))))
                    have hq0 : ∀ X, heldC X CS → X.cell? ⟨g, j * 10, none⟩ = some (.int .i64 2) := fun X hx => heldC_get hx (by rw [hCS]; simp)
                    have hq1 : ∀ X, heldC X CS → X.cell? ⟨g, j * 10 + 1, none⟩ = some (.int .i64 (seq + ↑j)) := fun X hx => heldC_get hx (by rw [hCS]; simp)
                    have hq2 : ∀ X, heldC X CS → X.cell? ⟨g, j * 10 + 2, none⟩ = some (.bool fon) := fun X hx => heldC_get hx (by rw [hCS]; simp)
                    have hq3 : ∀ X, heldC X CS → X.cell? ⟨g, j * 10 + 3, none⟩ = some (.string ⟨fcn.toArray⟩) := fun X hx => heldC_get hx (by rw [hCS]; simp)
                    have hq4 : ∀ X, heldC X CS → X.cell? ⟨g, j * 10 + 4, none⟩ = some (.int .i64 fsh) := fun X hx => heldC_get hx (by rw [hCS]; simp)
                    have hq5 : ∀ X, heldC X CS → X.cell? ⟨g, j * 10 + 5, none⟩ = some (.int .i64 fpr) := fun X hx => heldC_get hx (by rw [hCS]; simp)
                    have hq6 : ∀ X, heldC X CS → X.cell? ⟨g, j * 10 + 6, none⟩ = some (.int .i64 fsi) := fun X hx => heldC_get hx (by rw [hCS]; simp)
                    have hq7 : ∀ X, heldC X CS → X.cell? ⟨g, j * 10 + 7, none⟩ = some (.string ⟨fst.toArray⟩) := fun X hx => heldC_get hx (by rw [hCS]; simp)
                    have hq8 : ∀ X, heldC X CS → X.cell? ⟨g, j * 10 + 8, none⟩ = some (.int .u64 fsum) := fun X hx => heldC_get hx (by rw [hCS]; simp)
                    have hq9 : ∀ X, heldC X CS → X.cell? ⟨g, j * 10 + 9, none⟩ = some (.slice pa tl pc) := fun X hx => heldC_get hx (by rw [hCS]; simp)
                    have hq10 : ∀ X, heldC X CS → X.cell? ⟨(w.heap.size + 1), 0, none⟩ = some (.int .i64 seq) := fun X hx => heldC_get hx (by rw [hCS]; simp)
                    clear hCS
                    clear hBS
                    have K0 : Hid (Below wr.heap.size wr wr.drew) := Lib.hid (Below.refl _ _).drew
                    refine wp_region_held_drew (S := (fun X => heldC X CS)) (by kernel_rfl) ?_ (fun hHeld => ?_)
                    · exact heldC_up K0.out D0.out
                    generalize wr.drew = z0 at K0 hHeld ⊢
                    refine wpAnyH_take (i := 0) (oi := { dst := some 87, op := Op.move (Operand.tmp 8), type := 50, pos := "law.go:70", after := #[], guard := none }) (v := ?_) rfl (by as_aux_lemma => kernel_rfl) (by as_aux_lemma => kernel_rfl) (by as_aux_lemma => kernel_rfl) (fun _ _ _ h => h) (Or.inl ⟨by rfl, ?_⟩) (by assumption) ?_
                    rotate_left
                    · intro w' hSw
                      try dsimp only at hSw
                      go_simp
                      try with_reducible rfl
                    try simp only [Act.put, List.setIfInBounds_toArray, List.set_cons_zero, List.set_cons_succ]
                    refine wpAnyH_take (i := 1) (oi := { dst := some 88, op := Op.move (Operand.tmp 10), type := 3, pos := "law.go:70", after := #[], guard := none }) (v := ?_) rfl (by as_aux_lemma => kernel_rfl) (by as_aux_lemma => kernel_rfl) (by as_aux_lemma => kernel_rfl) (fun _ _ _ h => h) (Or.inl ⟨by rfl, ?_⟩) (by assumption) ?_
                    rotate_left
                    · intro w' hSw
                      try dsimp only at hSw
                      go_simp
                      try with_reducible rfl
                    try simp only [Act.put, List.setIfInBounds_toArray, List.set_cons_zero, List.set_cons_succ]
                    refine wpAnyH_take (i := 2) (oi := { dst := some 89, op := Op.indexAddr 50 (Operand.tmp 87) (Operand.tmp 88), type := 0, pos := "law.go:70", after := #[{ on := 0, ground := Ground.data }, { on := 1, ground := Ground.data }], guard := none }) (v := ?_) rfl (by as_aux_lemma => kernel_rfl) (by as_aux_lemma => kernel_rfl) (by as_aux_lemma => kernel_rfl) (fun _ _ _ h => h) (Or.inl ⟨by rfl, ?_⟩) (by assumption) ?_
                    rotate_left
                    · intro w' hSw
                      try dsimp only at hSw
                      go_simp
                      try with_reducible rfl
                    try simp only [Act.put, List.setIfInBounds_toArray, List.set_cons_zero, List.set_cons_succ]
                    refine wpAnyH_take (i := 3) (oi := { dst := some 90, op := Op.load 60 (Operand.tmp 89), type := 60, pos := "law.go:70", after := #[{ on := 2, ground := Ground.data }], guard := none }) (v := ?_) rfl (by as_aux_lemma => kernel_rfl) (by as_aux_lemma => kernel_rfl) (by as_aux_lemma => kernel_rfl) (fun _ _ _ h => h) (Or.inl ⟨by rfl, ?_⟩) (by assumption) ?_
                    rotate_left
                    · intro w' hSw
                      try dsimp only at hSw
                      go_simp
                      try with_reducible rfl
                    try simp only [Act.put, List.setIfInBounds_toArray, List.set_cons_zero, List.set_cons_succ]
                    refine wpAnyH_ready (rs := [4]) (by as_aux_lemma => kernel_rfl) (by simp) ?_
                    refine AllReadyH.cons (o := { dst := some 91, op := Op.call { callee := Callee.value (Operand.func 29), args := #[Operand.tmp 90], argTypes := #[60] }, type := 4, pos := "law.go:70", after := #[{ on := 3, ground := Ground.data }], guard := none }) rfl (fun Kx hK => ?_) AllReadyH.nil
                    go_simp
                    refine (RM.out _ K0.out).mono ?_
                    rintro e z12001 ⟨rfl, bz12001⟩
                    have K12001 := Lib.hid (below2Z K0.out bz12001)
                    have D12001 := Lib.hid (heldC_up K12001.out D0.out)
                    clear bz12001
                    go_wp2_with fail
                    refine hK.out _ _ ?_ (fun hHeld2 => ?_)
                    · exact D12001.out
                    clear hK Kx hHeld
                    have hHeld := hHeld2
                    clear hHeld2
                    try simp only [Act.put, List.setIfInBounds_toArray, List.set_cons_zero, List.set_cons_succ]
                    refine wpAnyH_take (i := 5) (oi := { dst := some 92, op := Op.unOp UnOp.not 4 (Operand.tmp 91), type := 4, pos := "law.go:70", after := #[{ on := 4, ground := Ground.data }], guard := none }) (v := ?_) rfl (by as_aux_lemma => kernel_rfl) (by as_aux_lemma => kernel_rfl) (by as_aux_lemma => kernel_rfl) (fun _ _ _ h => h) (Or.inl ⟨by rfl, ?_⟩) (by assumption) ?_
                    rotate_left
                    · intro w' hSw
                      try dsimp only at hSw
                      go_simp
                      try with_reducible rfl
                    try simp only [Act.put, List.setIfInBounds_toArray, List.set_cons_zero, List.set_cons_succ]
                    refine wpAnyH_take (i := 6) (oi := { dst := some 93, op := Op.move (Operand.tmp 92), type := 4, pos := "law.go:70", after := #[{ on := 5, ground := Ground.data }, { on := 4, ground := Ground.chain }], guard := none }) (v := ?_) rfl (by as_aux_lemma => kernel_rfl) (by as_aux_lemma => kernel_rfl) (by as_aux_lemma => kernel_rfl) (fun _ _ _ h => h) (Or.inl ⟨by rfl, ?_⟩) (by assumption) ?_
                    rotate_left
                    · intro w' hSw
                      try dsimp only at hSw
                      go_simp
                      try with_reducible rfl
                    try simp only [Act.put, List.setIfInBounds_toArray, List.set_cons_zero, List.set_cons_succ]
                    refine wpAnyH_take (i := 7) (oi := { dst := some 94, op := Op.move (Operand.tmp 8), type := 50, pos := "law.go:70", after := #[{ on := 6, ground := Ground.guard }], guard := some (6, false) }) (v := ?_) rfl (by as_aux_lemma => kernel_rfl) (by as_aux_lemma => kernel_rfl) (by as_aux_lemma => kernel_rfl) (fun _ _ _ h => h) (Or.inl ⟨by rfl, ?_⟩) (by assumption) ?_
                    rotate_left
                    · intro w' hSw
                      try dsimp only at hSw
                      go_simp
                      try with_reducible rfl
                    try simp only [Act.put, List.setIfInBounds_toArray, List.set_cons_zero, List.set_cons_succ]
                    refine wpAnyH_take (i := 8) (oi := { dst := some 95, op := Op.move (Operand.tmp 10), type := 3, pos := "law.go:70", after := #[{ on := 6, ground := Ground.guard }], guard := some (6, false) }) (v := ?_) rfl (by as_aux_lemma => kernel_rfl) (by as_aux_lemma => kernel_rfl) (by as_aux_lemma => kernel_rfl) (fun _ _ _ h => h) (Or.inl ⟨by rfl, ?_⟩) (by assumption) ?_
                    rotate_left
                    · intro w' hSw
                      try dsimp only at hSw
                      go_simp
                      try with_reducible rfl
                    try simp only [Act.put, List.setIfInBounds_toArray, List.set_cons_zero, List.set_cons_succ]
                    refine wpAnyH_take (i := 9) (oi := { dst := some 96, op := Op.indexAddr 50 (Operand.tmp 94) (Operand.tmp 95), type := 0, pos := "law.go:70", after := #[{ on := 7, ground := Ground.data }, { on := 8, ground := Ground.data }, { on := 6, ground := Ground.guard }], guard := some (6, false) }) (v := ?_) rfl (by as_aux_lemma => kernel_rfl) (by as_aux_lemma => kernel_rfl) (by as_aux_lemma => kernel_rfl) (fun _ _ _ h => h) (Or.inl ⟨by rfl, ?_⟩) (by assumption) ?_
                    rotate_left
                    · intro w' hSw
                      try dsimp only at hSw
                      go_simp
                      try with_reducible rfl
                    try simp only [Act.put, List.setIfInBounds_toArray, List.set_cons_zero, List.set_cons_succ]
                    refine wpAnyH_take (i := 10) (oi := { dst := some 97, op := Op.fieldAddr 60 (Operand.tmp 96) 1, type := 0, pos := "law.go:70", after := #[{ on := 9, ground := Ground.data }, { on := 6, ground := Ground.guard }], guard := some (6, false) }) (v := ?_) rfl (by as_aux_lemma => kernel_rfl) (by as_aux_lemma => kernel_rfl) (by as_aux_lemma => kernel_rfl) (fun _ _ _ h => h) (Or.inl ⟨by rfl, ?_⟩) (by assumption) ?_
                    rotate_left
                    · intro w' hSw
                      try dsimp only at hSw
                      go_simp
                      try with_reducible rfl
                    try simp only [Act.put, List.setIfInBounds_toArray, List.set_cons_zero, List.set_cons_succ]
                    refine wpAnyH_take (i := 11) (oi := { dst := some 98, op := Op.load 3 (Operand.tmp 97), type := 3, pos := "law.go:70", after := #[{ on := 10, ground := Ground.data }, { on := 6, ground := Ground.guard }], guard := some (6, false) }) (v := ?_) rfl (by as_aux_lemma => kernel_rfl) (by as_aux_lemma => kernel_rfl) (by as_aux_lemma => kernel_rfl) (fun _ _ _ h => h) (Or.inl ⟨by rfl, ?_⟩) (by assumption) ?_
                    rotate_left
                    · intro w' hSw
                      try dsimp only at hSw
                      go_simp
                      try with_reducible rfl
                    try simp only [Act.put, List.setIfInBounds_toArray, List.set_cons_zero, List.set_cons_succ]
                    refine wpAnyH_take (i := 12) (oi := { dst := some 99, op := Op.fieldAddr 30 (Operand.tmp 4) 0, type := 0, pos := "law.go:70", after := #[{ on := 6, ground := Ground.guard }], guard := some (6, false) }) (v := ?_) rfl (by as_aux_lemma => kernel_rfl) (by as_aux_lemma => kernel_rfl) (by as_aux_lemma => kernel_rfl) (fun _ _ _ h => h) (Or.inl ⟨by rfl, ?_⟩) (by assumption) ?_
                    rotate_left
                    · intro w' hSw
                      try dsimp only at hSw
                      go_simp
                      try with_reducible rfl
                    try simp only [Act.put, List.setIfInBounds_toArray, List.set_cons_zero, List.set_cons_succ]
                    refine wpAnyH_take (i := 13) (oi := { dst := some 100, op := Op.load 3 (Operand.tmp 99), type := 3, pos := "law.go:70", after := #[{ on := 12, ground := Ground.data }, { on := 6, ground := Ground.guard }], guard := some (6, false) }) (v := ?_) rfl (by as_aux_lemma => kernel_rfl) (by as_aux_lemma => kernel_rfl) (by as_aux_lemma => kernel_rfl) (fun _ _ _ h => h) (Or.inl ⟨by rfl, ?_⟩) (by assumption) ?_
                    rotate_left
                    · intro w' hSw
                      try dsimp only at hSw
                      go_simp
                      try with_reducible rfl
                    try simp only [Act.put, List.setIfInBounds_toArray, List.set_cons_zero, List.set_cons_succ]
                    refine wpAnyH_take (i := 14) (oi := { dst := some 101, op := Op.move (Operand.tmp 10), type := 3, pos := "law.go:70", after := #[{ on := 6, ground := Ground.guard }], guard := some (6, false) }) (v := ?_) rfl (by as_aux_lemma => kernel_rfl) (by as_aux_lemma => kernel_rfl) (by as_aux_lemma => kernel_rfl) (fun _ _ _ h => h) (Or.inl ⟨by rfl, ?_⟩) (by assumption) ?_
                    rotate_left
                    · intro w' hSw
                      try dsimp only at hSw
                      go_simp
                      try with_reducible rfl
                    try simp only [Act.put, List.setIfInBounds_toArray, List.set_cons_zero, List.set_cons_succ]
                    refine wpAnyH_take (i := 15) (oi := { dst := some 102, op := Op.binOp BinOp.add 3 (Operand.tmp 100) (Operand.tmp 101) 3, type := 3, pos := "law.go:70", after := #[{ on := 13, ground := Ground.data }, { on := 14, ground := Ground.data }, { on := 6, ground := Ground.guard }], guard := some (6, false) }) (v := ?_) rfl (by as_aux_lemma => kernel_rfl) (by as_aux_lemma => kernel_rfl) (by as_aux_lemma => kernel_rfl) (fun _ _ _ h => h) (Or.inl ⟨by rfl, ?_⟩) (by assumption) ?_
                    rotate_left
                    · intro w' hSw
                      try dsimp only at hSw
                      go_simp
                      try with_reducible rfl
                    try simp only [Act.put, List.setIfInBounds_toArray, List.set_cons_zero, List.set_cons_succ]
                    refine wpAnyH_take (i := 16) (oi := { dst := some 103, op := Op.binOp BinOp.neq 3 (Operand.tmp 98) (Operand.tmp 102) 3, type := 4, pos := "law.go:70", after := #[{ on := 11, ground := Ground.data }, { on := 15, ground := Ground.data }, { on := 6, ground := Ground.guard }], guard := some (6, false) }) (v := ?_) rfl (by as_aux_lemma => kernel_rfl) (by as_aux_lemma => kernel_rfl) (by as_aux_lemma => kernel_rfl) (fun _ _ _ h => h) (Or.inl ⟨by rfl, ?_⟩) (by assumption) ?_
                    rotate_left
                    · intro w' hSw
                      try dsimp only at hSw
                      go_simp
                      try with_reducible rfl
                    try simp only [Act.put, List.setIfInBounds_toArray, List.set_cons_zero, List.set_cons_succ]
                    refine wpAnyH_take (i := 17) (oi := { dst := some 104, op := Op.pick (Operand.tmp 93) (Operand.const (Value.bool true)) (Operand.tmp 103), type := 4, pos := "law.go:70", after := #[{ on := 6, ground := Ground.data }, { on := 16, ground := Ground.data }], guard := none }) (v := ?_) rfl (by as_aux_lemma => kernel_rfl) (by as_aux_lemma => kernel_rfl) (by as_aux_lemma => kernel_rfl) (fun _ _ _ h => h) (Or.inl ⟨by rfl, ?_⟩) (by assumption) ?_
                    rotate_left
                    · intro w' hSw
                      try dsimp only at hSw
                      go_simp
                      try with_reducible rfl
                    try simp only [Act.put, List.setIfInBounds_toArray, List.set_cons_zero, List.set_cons_succ]
                    refine wpAnyH_take (i := 18) (oi := { dst := some 105, op := Op.move (Operand.tmp 104), type := 4, pos := "law.go:70", after := #[{ on := 17, ground := Ground.data }, { on := 6, ground := Ground.chain }], guard := none }) (v := ?_) rfl (by as_aux_lemma => kernel_rfl) (by as_aux_lemma => kernel_rfl) (by as_aux_lemma => kernel_rfl) (fun _ _ _ h => h) (Or.inl ⟨by rfl, ?_⟩) (by assumption) ?_
                    rotate_left
                    · intro w' hSw
                      try dsimp only at hSw
                      go_simp
                      try with_reducible rfl
                    try simp only [Act.put, List.setIfInBounds_toArray, List.set_cons_zero, List.set_cons_succ]
                    refine wpAnyH_take (i := 19) (oi := { dst := some 106, op := Op.move (Operand.tmp 8), type := 50, pos := "law.go:70", after := #[{ on := 18, ground := Ground.guard }], guard := some (18, false) }) (v := ?_) rfl (by as_aux_lemma => kernel_rfl) (by as_aux_lemma => kernel_rfl) (by as_aux_lemma => kernel_rfl) (fun _ _ _ h => h) (Or.inl ⟨by rfl, ?_⟩) (by assumption) ?_
                    rotate_left
                    · intro w' hSw
                      try dsimp only at hSw
                      go_simp
                      try with_reducible rfl
                    try simp only [Act.put, List.setIfInBounds_toArray, List.set_cons_zero, List.set_cons_succ]
                    refine wpAnyH_take (i := 20) (oi := { dst := some 107, op := Op.move (Operand.tmp 10), type := 3, pos := "law.go:70", after := #[{ on := 18, ground := Ground.guard }], guard := some (18, false) }) (v := ?_) rfl (by as_aux_lemma => kernel_rfl) (by as_aux_lemma => kernel_rfl) (by as_aux_lemma => kernel_rfl) (fun _ _ _ h => h) (Or.inl ⟨by rfl, ?_⟩) (by assumption) ?_
                    rotate_left
                    · intro w' hSw
                      try dsimp only at hSw
                      go_simp
                      try with_reducible rfl
                    try simp only [Act.put, List.setIfInBounds_toArray, List.set_cons_zero, List.set_cons_succ]
                    refine wpAnyH_take (i := 21) (oi := { dst := some 108, op := Op.indexAddr 50 (Operand.tmp 106) (Operand.tmp 107), type := 0, pos := "law.go:70", after := #[{ on := 19, ground := Ground.data }, { on := 20, ground := Ground.data }, { on := 18, ground := Ground.guard }], guard := some (18, false) }) (v := ?_) rfl (by as_aux_lemma => kernel_rfl) (by as_aux_lemma => kernel_rfl) (by as_aux_lemma => kernel_rfl) (fun _ _ _ h => h) (Or.inl ⟨by rfl, ?_⟩) (by assumption) ?_
                    rotate_left
                    · intro w' hSw
                      try dsimp only at hSw
                      go_simp
                      try with_reducible rfl
                    try simp only [Act.put, List.setIfInBounds_toArray, List.set_cons_zero, List.set_cons_succ]
                    refine wpAnyH_take (i := 22) (oi := { dst := some 109, op := Op.fieldAddr 60 (Operand.tmp 108) 0, type := 0, pos := "law.go:70", after := #[{ on := 21, ground := Ground.data }, { on := 18, ground := Ground.guard }], guard := some (18, false) }) (v := ?_) rfl (by as_aux_lemma => kernel_rfl) (by as_aux_lemma => kernel_rfl) (by as_aux_lemma => kernel_rfl) (fun _ _ _ h => h) (Or.inl ⟨by rfl, ?_⟩) (by assumption) ?_
                    rotate_left
                    · intro w' hSw
                      try dsimp only at hSw
                      go_simp
                      try with_reducible rfl
                    try simp only [Act.put, List.setIfInBounds_toArray, List.set_cons_zero, List.set_cons_succ]
                    refine wpAnyH_take (i := 23) (oi := { dst := some 110, op := Op.load 3 (Operand.tmp 109), type := 3, pos := "law.go:70", after := #[{ on := 22, ground := Ground.data }, { on := 18, ground := Ground.guard }], guard := some (18, false) }) (v := ?_) rfl (by as_aux_lemma => kernel_rfl) (by as_aux_lemma => kernel_rfl) (by as_aux_lemma => kernel_rfl) (fun _ _ _ h => h) (Or.inl ⟨by rfl, ?_⟩) (by assumption) ?_
                    rotate_left
                    · intro w' hSw
                      try dsimp only at hSw
                      go_simp
                      try with_reducible rfl
                    try simp only [Act.put, List.setIfInBounds_toArray, List.set_cons_zero, List.set_cons_succ]
                    refine wpAnyH_take (i := 24) (oi := { dst := some 111, op := Op.binOp BinOp.eql 3 (Operand.tmp 110) (Operand.const (Value.int IntKind.i64 3)) 3, type := 4, pos := "law.go:70", after := #[{ on := 23, ground := Ground.data }, { on := 18, ground := Ground.guard }], guard := some (18, false) }) (v := ?_) rfl (by as_aux_lemma => kernel_rfl) (by as_aux_lemma => kernel_rfl) (by as_aux_lemma => kernel_rfl) (fun _ _ _ h => h) (Or.inl ⟨by rfl, ?_⟩) (by assumption) ?_
                    rotate_left
                    · intro w' hSw
                      try dsimp only at hSw
                      go_simp
                      try with_reducible rfl
                    try simp only [Act.put, List.setIfInBounds_toArray, List.set_cons_zero, List.set_cons_succ]
                    refine wpAnyH_take (i := 25) (oi := { dst := some 112, op := Op.move (Operand.tmp 111), type := 4, pos := "law.go:70", after := #[{ on := 24, ground := Ground.data }, { on := 18, ground := Ground.chain }, { on := 18, ground := Ground.guard }], guard := some (18, false) }) (v := ?_) rfl (by as_aux_lemma => kernel_rfl) (by as_aux_lemma => kernel_rfl) (by as_aux_lemma => kernel_rfl) (fun _ _ _ h => h) (Or.inl ⟨by rfl, ?_⟩) (by assumption) ?_
                    rotate_left
                    · intro w' hSw
                      try dsimp only at hSw
                      go_simp
                      try with_reducible rfl
                    try simp only [Act.put, List.setIfInBounds_toArray, List.set_cons_zero, List.set_cons_succ]
                    refine wpAnyH_take (i := 26) (oi := { dst := some 113, op := Op.move (Operand.tmp 10), type := 3, pos := "law.go:70", after := #[{ on := 25, ground := Ground.guard }], guard := some (25, true) }) (v := undef) rfl (by as_aux_lemma => kernel_rfl) (by as_aux_lemma => kernel_rfl) (by as_aux_lemma => kernel_rfl) (fun _ _ _ h => h) (Or.inr ⟨by rfl, rfl⟩) (by assumption) ?_
                    try simp only [Act.put, List.setIfInBounds_toArray, List.set_cons_zero, List.set_cons_succ]
                    refine wpAnyH_take (i := 27) (oi := { dst := some 114, op := Op.binOp BinOp.gtr 3 (Operand.tmp 113) (Operand.const (Value.int IntKind.i64 0)) 3, type := 4, pos := "law.go:70", after := #[{ on := 26, ground := Ground.data }, { on := 25, ground := Ground.guard }], guard := some (25, true) }) (v := undef) rfl (by as_aux_lemma => kernel_rfl) (by as_aux_lemma => kernel_rfl) (by as_aux_lemma => kernel_rfl) (fun _ _ _ h => h) (Or.inr ⟨by rfl, rfl⟩) (by assumption) ?_
                    try simp only [Act.put, List.setIfInBounds_toArray, List.set_cons_zero, List.set_cons_succ]
                    refine wpAnyH_take (i := 28) (oi := { dst := some 115, op := Op.pick (Operand.tmp 112) (Operand.tmp 114) (Operand.const (Value.bool false)), type := 4, pos := "law.go:70", after := #[{ on := 25, ground := Ground.data }, { on := 27, ground := Ground.data }, { on := 18, ground := Ground.guard }], guard := some (18, false) }) (v := ?_) rfl (by as_aux_lemma => kernel_rfl) (by as_aux_lemma => kernel_rfl) (by as_aux_lemma => kernel_rfl) (fun _ _ _ h => h) (Or.inl ⟨by rfl, ?_⟩) (by assumption) ?_
                    rotate_left
                    · intro w' hSw
                      try dsimp only at hSw
                      go_simp
                      try with_reducible rfl
                    try simp only [Act.put, List.setIfInBounds_toArray, List.set_cons_zero, List.set_cons_succ]
                    refine wpAnyH_take (i := 29) (oi := { dst := some 116, op := Op.pick (Operand.tmp 105) (Operand.const (Value.bool true)) (Operand.tmp 115), type := 4, pos := "law.go:70", after := #[{ on := 18, ground := Ground.data }, { on := 28, ground := Ground.data }], guard := none }) (v := ?_) rfl (by as_aux_lemma => kernel_rfl) (by as_aux_lemma => kernel_rfl) (by as_aux_lemma => kernel_rfl) (fun _ _ _ h => h) (Or.inl ⟨by rfl, ?_⟩) (by assumption) ?_
                    rotate_left
                    · intro w' hSw
                      try dsimp only at hSw
                      go_simp
                      try with_reducible rfl
                    try simp only [Act.put, List.setIfInBounds_toArray, List.set_cons_zero, List.set_cons_succ]
                    refine wpAnyH_take (i := 30) (oi := { dst := some 117, op := Op.move (Operand.tmp 116), type := 4, pos := "law.go:70", after := #[{ on := 29, ground := Ground.data }, { on := 25, ground := Ground.chain }], guard := none }) (v := ?_) rfl (by as_aux_lemma => kernel_rfl) (by as_aux_lemma => kernel_rfl) (by as_aux_lemma => kernel_rfl) (fun _ _ _ h => h) (Or.inl ⟨by rfl, ?_⟩) (by assumption) ?_
                    rotate_left
                    · intro w' hSw
                      try dsimp only at hSw
                      go_simp
                      try with_reducible rfl
                    try simp only [Act.put, List.setIfInBounds_toArray, List.set_cons_zero, List.set_cons_succ]
                    refine wpAnyH_take (i := 31) (oi := { dst := some 118, op := Op.move (Operand.tmp 8), type := 50, pos := "law.go:70", after := #[{ on := 30, ground := Ground.guard }], guard := some (30, false) }) (v := ?_) rfl (by as_aux_lemma => kernel_rfl) (by as_aux_lemma => kernel_rfl) (by as_aux_lemma => kernel_rfl) (fun _ _ _ h => h) (Or.inl ⟨by rfl, ?_⟩) (by assumption) ?_
                    rotate_left
                    · intro w' hSw
                      try dsimp only at hSw
                      go_simp
                      try with_reducible rfl
                    try simp only [Act.put, List.setIfInBounds_toArray, List.set_cons_zero, List.set_cons_succ]
                    refine wpAnyH_take (i := 32) (oi := { dst := some 119, op := Op.move (Operand.tmp 10), type := 3, pos := "law.go:70", after := #[{ on := 30, ground := Ground.guard }], guard := some (30, false) }) (v := ?_) rfl (by as_aux_lemma => kernel_rfl) (by as_aux_lemma => kernel_rfl) (by as_aux_lemma => kernel_rfl) (fun _ _ _ h => h) (Or.inl ⟨by rfl, ?_⟩) (by assumption) ?_
                    rotate_left
                    · intro w' hSw
                      try dsimp only at hSw
                      go_simp
                      try with_reducible rfl
                    try simp only [Act.put, List.setIfInBounds_toArray, List.set_cons_zero, List.set_cons_succ]
                    refine wpAnyH_take (i := 33) (oi := { dst := some 120, op := Op.indexAddr 50 (Operand.tmp 118) (Operand.tmp 119), type := 0, pos := "law.go:70", after := #[{ on := 31, ground := Ground.data }, { on := 32, ground := Ground.data }, { on := 30, ground := Ground.guard }], guard := some (30, false) }) (v := ?_) rfl (by as_aux_lemma => kernel_rfl) (by as_aux_lemma => kernel_rfl) (by as_aux_lemma => kernel_rfl) (fun _ _ _ h => h) (Or.inl ⟨by rfl, ?_⟩) (by assumption) ?_
                    rotate_left
                    · intro w' hSw
                      try dsimp only at hSw
                      go_simp
                      try with_reducible rfl
                    try simp only [Act.put, List.setIfInBounds_toArray, List.set_cons_zero, List.set_cons_succ]
                    refine wpAnyH_take (i := 34) (oi := { dst := some 121, op := Op.fieldAddr 60 (Operand.tmp 120) 0, type := 0, pos := "law.go:70", after := #[{ on := 33, ground := Ground.data }, { on := 30, ground := Ground.guard }], guard := some (30, false) }) (v := ?_) rfl (by as_aux_lemma => kernel_rfl) (by as_aux_lemma => kernel_rfl) (by as_aux_lemma => kernel_rfl) (fun _ _ _ h => h) (Or.inl ⟨by rfl, ?_⟩) (by assumption) ?_
                    rotate_left
                    · intro w' hSw
                      try dsimp only at hSw
                      go_simp
                      try with_reducible rfl
                    try simp only [Act.put, List.setIfInBounds_toArray, List.set_cons_zero, List.set_cons_succ]
                    refine wpAnyH_take (i := 35) (oi := { dst := some 122, op := Op.load 3 (Operand.tmp 121), type := 3, pos := "law.go:70", after := #[{ on := 34, ground := Ground.data }, { on := 30, ground := Ground.guard }], guard := some (30, false) }) (v := ?_) rfl (by as_aux_lemma => kernel_rfl) (by as_aux_lemma => kernel_rfl) (by as_aux_lemma => kernel_rfl) (fun _ _ _ h => h) (Or.inl ⟨by rfl, ?_⟩) (by assumption) ?_
                    rotate_left
                    · intro w' hSw
                      try dsimp only at hSw
                      go_simp
                      try with_reducible rfl
                    try simp only [Act.put, List.setIfInBounds_toArray, List.set_cons_zero, List.set_cons_succ]
                    refine wpAnyH_take (i := 36) (oi := { dst := some 123, op := Op.binOp BinOp.eql 3 (Operand.tmp 122) (Operand.const (Value.int IntKind.i64 2)) 3, type := 4, pos := "law.go:70", after := #[{ on := 35, ground := Ground.data }, { on := 30, ground := Ground.guard }], guard := some (30, false) }) (v := ?_) rfl (by as_aux_lemma => kernel_rfl) (by as_aux_lemma => kernel_rfl) (by as_aux_lemma => kernel_rfl) (fun _ _ _ h => h) (Or.inl ⟨by rfl, ?_⟩) (by assumption) ?_
                    rotate_left
                    · intro w' hSw
                      try dsimp only at hSw
                      go_simp
                      try with_reducible rfl
                    try simp only [Act.put, List.setIfInBounds_toArray, List.set_cons_zero, List.set_cons_succ]
                    refine wpAnyH_take (i := 37) (oi := { dst := some 124, op := Op.move (Operand.tmp 123), type := 4, pos := "law.go:70", after := #[{ on := 36, ground := Ground.data }, { on := 30, ground := Ground.chain }, { on := 30, ground := Ground.guard }], guard := some (30, false) }) (v := ?_) rfl (by as_aux_lemma => kernel_rfl) (by as_aux_lemma => kernel_rfl) (by as_aux_lemma => kernel_rfl) (fun _ _ _ h => h) (Or.inl ⟨by rfl, ?_⟩) (by assumption) ?_
                    rotate_left
                    · intro w' hSw
                      try dsimp only at hSw
                      go_simp
                      try with_reducible rfl
                    try simp only [Act.put, List.setIfInBounds_toArray, List.set_cons_zero, List.set_cons_succ]
                    refine wpAnyH_take (i := 38) (oi := { dst := some 125, op := Op.move (Operand.tmp 10), type := 3, pos := "law.go:70", after := #[{ on := 37, ground := Ground.guard }], guard := some (37, true) }) (v := ?_) rfl (by as_aux_lemma => kernel_rfl) (by as_aux_lemma => kernel_rfl) (by as_aux_lemma => kernel_rfl) (fun _ _ _ h => h) (Or.inl ⟨by rfl, ?_⟩) (by assumption) ?_
                    rotate_left
                    · intro w' hSw
                      try dsimp only at hSw
                      go_simp
                      try with_reducible rfl
                    try simp only [Act.put, List.setIfInBounds_toArray, List.set_cons_zero, List.set_cons_succ]
                    refine wpAnyH_take (i := 39) (oi := { dst := some 126, op := Op.move (Operand.tmp 8), type := 50, pos := "law.go:70", after := #[{ on := 37, ground := Ground.guard }], guard := some (37, true) }) (v := ?_) rfl (by as_aux_lemma => kernel_rfl) (by as_aux_lemma => kernel_rfl) (by as_aux_lemma => kernel_rfl) (fun _ _ _ h => h) (Or.inl ⟨by rfl, ?_⟩) (by assumption) ?_
                    rotate_left
                    · intro w' hSw
                      try dsimp only at hSw
                      go_simp
                      try with_reducible rfl
                    try simp only [Act.put, List.setIfInBounds_toArray, List.set_cons_zero, List.set_cons_succ]
                    refine wpAnyH_take (i := 40) (oi := { dst := some 127, op := Op.call { callee := Callee.builtin Builtin.len, args := #[Operand.tmp 126], argTypes := #[50] }, type := 3, pos := "law.go:70", after := #[{ on := 39, ground := Ground.data }, { on := 37, ground := Ground.guard }], guard := some (37, true) }) (v := ?_) rfl (by as_aux_lemma => kernel_rfl) (by as_aux_lemma => kernel_rfl) (by as_aux_lemma => kernel_rfl) (fun _ _ _ h => h) (Or.inl ⟨by rfl, ?_⟩) (by assumption) ?_
                    rotate_left
                    · intro w' hSw
                      try dsimp only at hSw
                      go_simp
                      try with_reducible rfl
                    try simp only [Act.put, List.setIfInBounds_toArray, List.set_cons_zero, List.set_cons_succ]
                    refine wpAnyH_take (i := 41) (oi := { dst := some 128, op := Op.binOp BinOp.sub 3 (Operand.tmp 127) (Operand.const (Value.int IntKind.i64 1)) 3, type := 3, pos := "law.go:70", after := #[{ on := 40, ground := Ground.data }, { on := 37, ground := Ground.guard }], guard := some (37, true) }) (v := ?_) rfl (by as_aux_lemma => kernel_rfl) (by as_aux_lemma => kernel_rfl) (by as_aux_lemma => kernel_rfl) (fun _ _ _ h => h) (Or.inl ⟨by rfl, ?_⟩) (by assumption) ?_
                    rotate_left
                    · intro w' hSw
                      try dsimp only at hSw
                      go_simp
                      try with_reducible rfl
                    try simp only [Act.put, List.setIfInBounds_toArray, List.set_cons_zero, List.set_cons_succ]
                    refine wpAnyH_take (i := 42) (oi := { dst := some 129, op := Op.binOp BinOp.neq 3 (Operand.tmp 125) (Operand.tmp 128) 3, type := 4, pos := "law.go:70", after := #[{ on := 38, ground := Ground.data }, { on := 41, ground := Ground.data }, { on := 37, ground := Ground.guard }], guard := some (37, true) }) (v := ?_) rfl (by as_aux_lemma => kernel_rfl) (by as_aux_lemma => kernel_rfl) (by as_aux_lemma => kernel_rfl) (fun _ _ _ h => h) (Or.inl ⟨by rfl, ?_⟩) (by assumption) ?_
                    rotate_left
                    · intro w' hSw
                      try dsimp only at hSw
                      go_simp
                      try with_reducible rfl
                    try simp only [Act.put, List.setIfInBounds_toArray, List.set_cons_zero, List.set_cons_succ]
                    refine wpAnyH_take (i := 43) (oi := { dst := some 130, op := Op.pick (Operand.tmp 124) (Operand.tmp 129) (Operand.const (Value.bool false)), type := 4, pos := "law.go:70", after := #[{ on := 37, ground := Ground.data }, { on := 42, ground := Ground.data }, { on := 30, ground := Ground.guard }], guard := some (30, false) }) (v := ?_) rfl (by as_aux_lemma => kernel_rfl) (by as_aux_lemma => kernel_rfl) (by as_aux_lemma => kernel_rfl) (fun _ _ _ h => h) (Or.inl ⟨by rfl, ?_⟩) (by assumption) ?_
                    rotate_left
                    · intro w' hSw
                      try dsimp only at hSw
                      go_simp
                      try with_reducible rfl
                    try simp only [Act.put, List.setIfInBounds_toArray, List.set_cons_zero, List.set_cons_succ]
                    refine wpAnyH_take (i := 44) (oi := { dst := some 131, op := Op.pick (Operand.tmp 117) (Operand.const (Value.bool true)) (Operand.tmp 130), type := 4, pos := "law.go:70", after := #[{ on := 30, ground := Ground.data }, { on := 43, ground := Ground.data }], guard := none }) (v := ?_) rfl (by as_aux_lemma => kernel_rfl) (by as_aux_lemma => kernel_rfl) (by as_aux_lemma => kernel_rfl) (fun _ _ _ h => h) (Or.inl ⟨by rfl, ?_⟩) (by assumption) ?_
                    rotate_left
                    · intro w' hSw
                      try dsimp only at hSw
                      go_simp
                      try with_reducible rfl
                    try simp only [Act.put, List.setIfInBounds_toArray, List.set_cons_zero, List.set_cons_succ]
                    refine wpAnyH_take (i := 45) (oi := { dst := some 132, op := Op.move (Operand.tmp 131), type := 4, pos := "law.go:70", after := #[{ on := 44, ground := Ground.data }, { on := 37, ground := Ground.chain }], guard := none }) (v := ?_) rfl (by as_aux_lemma => kernel_rfl) (by as_aux_lemma => kernel_rfl) (by as_aux_lemma => kernel_rfl) (fun _ _ _ h => h) (Or.inl ⟨by rfl, ?_⟩) (by assumption) ?_
                    rotate_left
                    · intro w' hSw
                      try dsimp only at hSw
                      go_simp
                      try with_reducible rfl
                    try simp only [Act.put, List.setIfInBounds_toArray, List.set_cons_zero, List.set_cons_succ]
                    refine wpAnyH_take (i := 46) (oi := { dst := some 133, op := Op.move (Operand.tmp 8), type := 50, pos := "law.go:70", after := #[{ on := 45, ground := Ground.guard }], guard := some (45, false) }) (v := ?_) rfl (by as_aux_lemma => kernel_rfl) (by as_aux_lemma => kernel_rfl) (by as_aux_lemma => kernel_rfl) (fun _ _ _ h => h) (Or.inl ⟨by rfl, ?_⟩) (by assumption) ?_
                    rotate_left
                    · intro w' hSw
                      try dsimp only at hSw
                      go_simp
                      try with_reducible rfl
                    try simp only [Act.put, List.setIfInBounds_toArray, List.set_cons_zero, List.set_cons_succ]
                    refine wpAnyH_take (i := 47) (oi := { dst := some 134, op := Op.move (Operand.tmp 10), type := 3, pos := "law.go:70", after := #[{ on := 45, ground := Ground.guard }], guard := some (45, false) }) (v := ?_) rfl (by as_aux_lemma => kernel_rfl) (by as_aux_lemma => kernel_rfl) (by as_aux_lemma => kernel_rfl) (fun _ _ _ h => h) (Or.inl ⟨by rfl, ?_⟩) (by assumption) ?_
                    rotate_left
                    · intro w' hSw
                      try dsimp only at hSw
                      go_simp
                      try with_reducible rfl
                    try simp only [Act.put, List.setIfInBounds_toArray, List.set_cons_zero, List.set_cons_succ]
                    refine wpAnyH_take (i := 48) (oi := { dst := some 135, op := Op.indexAddr 50 (Operand.tmp 133) (Operand.tmp 134), type := 0, pos := "law.go:70", after := #[{ on := 46, ground := Ground.data }, { on := 47, ground := Ground.data }, { on := 45, ground := Ground.guard }], guard := some (45, false) }) (v := ?_) rfl (by as_aux_lemma => kernel_rfl) (by as_aux_lemma => kernel_rfl) (by as_aux_lemma => kernel_rfl) (fun _ _ _ h => h) (Or.inl ⟨by rfl, ?_⟩) (by assumption) ?_
                    rotate_left
                    · intro w' hSw
                      try dsimp only at hSw
                      go_simp
                      try with_reducible rfl
                    try simp only [Act.put, List.setIfInBounds_toArray, List.set_cons_zero, List.set_cons_succ]
                    refine wpAnyH_take (i := 49) (oi := { dst := some 136, op := Op.fieldAddr 60 (Operand.tmp 135) 0, type := 0, pos := "law.go:70", after := #[{ on := 48, ground := Ground.data }, { on := 45, ground := Ground.guard }], guard := some (45, false) }) (v := ?_) rfl (by as_aux_lemma => kernel_rfl) (by as_aux_lemma => kernel_rfl) (by as_aux_lemma => kernel_rfl) (fun _ _ _ h => h) (Or.inl ⟨by rfl, ?_⟩) (by assumption) ?_
                    rotate_left
                    · intro w' hSw
                      try dsimp only at hSw
                      go_simp
                      try with_reducible rfl
                    try simp only [Act.put, List.setIfInBounds_toArray, List.set_cons_zero, List.set_cons_succ]
                    refine wpAnyH_take (i := 50) (oi := { dst := some 137, op := Op.load 3 (Operand.tmp 136), type := 3, pos := "law.go:70", after := #[{ on := 49, ground := Ground.data }, { on := 45, ground := Ground.guard }], guard := some (45, false) }) (v := ?_) rfl (by as_aux_lemma => kernel_rfl) (by as_aux_lemma => kernel_rfl) (by as_aux_lemma => kernel_rfl) (fun _ _ _ h => h) (Or.inl ⟨by rfl, ?_⟩) (by assumption) ?_
                    rotate_left
                    · intro w' hSw
                      try dsimp only at hSw
                      go_simp
                      try with_reducible rfl
                    try simp only [Act.put, List.setIfInBounds_toArray, List.set_cons_zero, List.set_cons_succ]
                    refine wpAnyH_take (i := 51) (oi := { dst := some 138, op := Op.binOp BinOp.eql 3 (Operand.tmp 137) (Operand.const (Value.int IntKind.i64 4)) 3, type := 4, pos := "law.go:70", after := #[{ on := 50, ground := Ground.data }, { on := 45, ground := Ground.guard }], guard := some (45, false) }) (v := ?_) rfl (by as_aux_lemma => kernel_rfl) (by as_aux_lemma => kernel_rfl) (by as_aux_lemma => kernel_rfl) (fun _ _ _ h => h) (Or.inl ⟨by rfl, ?_⟩) (by assumption) ?_
                    rotate_left
                    · intro w' hSw
                      try dsimp only at hSw
                      go_simp
                      try with_reducible rfl
                    try simp only [Act.put, List.setIfInBounds_toArray, List.set_cons_zero, List.set_cons_succ]
                    refine wpAnyH_take (i := 52) (oi := { dst := some 139, op := Op.pick (Operand.tmp 132) (Operand.const (Value.bool true)) (Operand.tmp 138), type := 4, pos := "law.go:70", after := #[{ on := 45, ground := Ground.data }, { on := 51, ground := Ground.data }], guard := none }) (v := ?_) rfl (by as_aux_lemma => kernel_rfl) (by as_aux_lemma => kernel_rfl) (by as_aux_lemma => kernel_rfl) (fun _ _ _ h => h) (Or.inl ⟨by rfl, ?_⟩) (by assumption) ?_
                    rotate_left
                    · intro w' hSw
                      try dsimp only at hSw
                      go_simp
                      try with_reducible rfl
                    try simp only [Act.put, List.setIfInBounds_toArray, List.set_cons_zero, List.set_cons_succ]
                    refine wpAnyH_done (by kernel_rfl) ?_ _
                    have HN2 := Lib.hid (below2Z HN.out (K12001.out))
                    go_wp2_with fail
                    go_roundw
                    case rel => exact ⟨j + 1, by omega, by go_num, HN2⟩
                    case measure => simp [intOf]; omega
                  · have hz := ha4 rfl
                    have t4 : decide ((0 : Int) < (j : Int)) = false := by simp; omega
                    have t8 : decide (0 < j) = false := by simp; omega
                    clear ha4 ha5 hz
                    have RM := Lib.hid fun (X : World) (h : Below wr.heap.size wr X) => rfrmay_yes (TN.out.later h) 3 (seq + ↑j) fon fcn fsh fpr fsi fst fsum HM
                    clear ha1 ha2 HM TN
                    have hw7 : IntKind.i64.wrap (seq + (j : Int)) = seq + (j : Int) := IntWalk.i64_in _ (by omega)
                    have t7 : (seq + (j : Int) != seq + (j : Int)) = false := by simp
                    go_upto_region 10 with fail
                    obtain ⟨BS, hBS⟩ : ∃ BS : List (Nat × List Value), BS = [] := ⟨_, rfl⟩
                    obtain ⟨CS, hCS⟩ : ∃ CS : List (Nat × Nat × Value), CS = [(g, j * 10, .int .i64 3), (g, j * 10 + 1, .int .i64 (seq + ↑j)), (g, j * 10 + 2, .bool fon), (g, j * 10 + 3, .string ⟨fcn.toArray⟩), (g, j * 10 + 4, .int .i64 fsh), (g, j * 10 + 5, .int .i64 fpr), (g, j * 10 + 6, .int .i64 fsi), (g, j * 10 + 7, .string ⟨fst.toArray⟩), (g, j * 10 + 8, .int .u64 fsum), (g, j * 10 + 9, .slice pa tl pc), ((w.heap.size + 1), 0, .int .i64 seq)] := ⟨_, rfl⟩
                    have D0 := Lib.hid (show heldC wr CS from by rw [hCS]; exact heldC_cons (fc0) (heldC_cons (fc1) (heldC_cons (fc2) (heldC_cons (fc3) (heldC_cons (fc4) (heldC_cons (fc5) (heldC_cons (fc6) (heldC_cons (fc7) (heldC_cons (fc8) (heldC_cons (fc9) (heldC_cons (lq0) (heldC_nil _))))))))))))
                    have hq0 : ∀ X, heldC X CS → X.cell? ⟨g, j * 10, none⟩ = some (.int .i64 3) := fun X hx => heldC_get hx (by rw [hCS]; simp)
                    have hq1 : ∀ X, heldC X CS → X.cell? ⟨g, j * 10 + 1, none⟩ = some (.int .i64 (seq + ↑j)) := fun X hx => heldC_get hx (by rw [hCS]; simp)
                    have hq2 : ∀ X, heldC X CS → X.cell? ⟨g, j * 10 + 2, none⟩ = some (.bool fon) := fun X hx => heldC_get hx (by rw [hCS]; simp)
                    have hq3 : ∀ X, heldC X CS → X.cell? ⟨g, j * 10 + 3, none⟩ = some (.string ⟨fcn.toArray⟩) := fun X hx => heldC_get hx (by rw [hCS]; simp)
                    have hq4 : ∀ X, heldC X CS → X.cell? ⟨g, j * 10 + 4, none⟩ = some (.int .i64 fsh) := fun X hx => heldC_get hx (by rw [hCS]; simp)
                    have hq5 : ∀ X, heldC X CS → X.cell? ⟨g, j * 10 + 5, none⟩ = some (.int .i64 fpr) := fun X hx => heldC_get hx (by rw [hCS]; simp)
                    have hq6 : ∀ X, heldC X CS → X.cell? ⟨g, j * 10 + 6, none⟩ = some (.int .i64 fsi) := fun X hx => heldC_get hx (by rw [hCS]; simp)
                    have hq7 : ∀ X, heldC X CS → X.cell? ⟨g, j * 10 + 7, none⟩ = some (.string ⟨fst.toArray⟩) := fun X hx => heldC_get hx (by rw [hCS]; simp)
                    have hq8 : ∀ X, heldC X CS → X.cell? ⟨g, j * 10 + 8, none⟩ = some (.int .u64 fsum) := fun X hx => heldC_get hx (by rw [hCS]; simp)
                    have hq9 : ∀ X, heldC X CS → X.cell? ⟨g, j * 10 + 9, none⟩ = some (.slice pa tl pc) := fun X hx => heldC_get hx (by rw [hCS]; simp)
                    have hq10 : ∀ X, heldC X CS → X.cell? ⟨(w.heap.size + 1), 0, none⟩ = some (.int .i64 seq) := fun X hx => heldC_get hx (by rw [hCS]; simp)
                    clear hCS
                    clear hBS
                    have K0 : Hid (Below wr.heap.size wr wr.drew) := Lib.hid (Below.refl _ _).drew
                    refine wp_region_held_drew (S := (fun X => heldC X CS)) (by kernel_rfl) ?_ (fun hHeld => ?_)
                    · exact heldC_up K0.out D0.out
                    generalize wr.drew = z0 at K0 hHeld ⊢
                    refine wpAnyH_take (i := 0) (oi := { dst := some 87, op := Op.move (Operand.tmp 8), type := 50, pos := "law.go:70", after := #[], guard := none }) (v := ?_) rfl (by as_aux_lemma => kernel_rfl) (by as_aux_lemma => kernel_rfl) (by as_aux_lemma => kernel_rfl) (fun _ _ _ h => h) (Or.inl ⟨by rfl, ?_⟩) (by assumption) ?_
                    rotate_left
                    · intro w' hSw
                      try dsimp only at hSw
                      go_simp
                      try with_reducible rfl
                    try simp only [Act.put, List.setIfInBounds_toArray, List.set_cons_zero, List.set_cons_succ]
                    refine wpAnyH_take (i := 1) (oi := { dst := some 88, op := Op.move (Operand.tmp 10), type := 3, pos := "law.go:70", after := #[], guard := none }) (v := ?_) rfl (by as_aux_lemma => kernel_rfl) (by as_aux_lemma => kernel_rfl) (by as_aux_lemma => kernel_rfl) (fun _ _ _ h => h) (Or.inl ⟨by rfl, ?_⟩) (by assumption) ?_
                    rotate_left
                    · intro w' hSw
                      try dsimp only at hSw
                      go_simp
                      try with_reducible rfl
                    try simp only [Act.put, List.setIfInBounds_toArray, List.set_cons_zero, List.set_cons_succ]
                    refine wpAnyH_take (i := 2) (oi := { dst := some 89, op := Op.indexAddr 50 (Operand.tmp 87) (Operand.tmp 88), type := 0, pos := "law.go:70", after := #[{ on := 0, ground := Ground.data }, { on := 1, ground := Ground.data }], guard := none }) (v := ?_) rfl (by as_aux_lemma => kernel_rfl) (by as_aux_lemma => kernel_rfl) (by as_aux_lemma => kernel_rfl) (fun _ _ _ h => h) (Or.inl ⟨by rfl, ?_⟩) (by assumption) ?_
                    rotate_left
                    · intro w' hSw
                      try dsimp only at hSw
                      go_simp
                      try with_reducible rfl
                    try simp only [Act.put, List.setIfInBounds_toArray, List.set_cons_zero, List.set_cons_succ]
                    refine wpAnyH_take (i := 3) (oi := { dst := some 90, op := Op.load 60 (Operand.tmp 89), type := 60, pos := "law.go:70", after := #[{ on := 2, ground := Ground.data }], guard := none }) (v := ?_) rfl (by as_aux_lemma => kernel_rfl) (by as_aux_lemma => kernel_rfl) (by as_aux_lemma => kernel_rfl) (fun _ _ _ h => h) (Or.inl ⟨by rfl, ?_⟩) (by assumption) ?_
                    rotate_left
                    · intro w' hSw
                      try dsimp only at hSw
                      go_simp
                      try with_reducible rfl
                    try simp only [Act.put, List.setIfInBounds_toArray, List.set_cons_zero, List.set_cons_succ]
                    refine wpAnyH_ready (rs := [4]) (by as_aux_lemma => kernel_rfl) (by simp) ?_
                    refine AllReadyH.cons (o := { dst := some 91, op := Op.call { callee := Callee.value (Operand.func 29), args := #[Operand.tmp 90], argTypes := #[60] }, type := 4, pos := "law.go:70", after := #[{ on := 3, ground := Ground.data }], guard := none }) rfl (fun Kx hK => ?_) AllReadyH.nil
                    go_simp
                    refine (RM.out _ K0.out).mono ?_
                    rintro e z13001 ⟨rfl, bz13001⟩
                    have K13001 := Lib.hid (below2Z K0.out bz13001)
                    have D13001 := Lib.hid (heldC_up K13001.out D0.out)
                    clear bz13001
                    go_wp2_with fail
                    refine hK.out _ _ ?_ (fun hHeld2 => ?_)
                    · exact D13001.out
                    clear hK Kx hHeld
                    have hHeld := hHeld2
                    clear hHeld2
                    try simp only [Act.put, List.setIfInBounds_toArray, List.set_cons_zero, List.set_cons_succ]
                    refine wpAnyH_take (i := 5) (oi := { dst := some 92, op := Op.unOp UnOp.not 4 (Operand.tmp 91), type := 4, pos := "law.go:70", after := #[{ on := 4, ground := Ground.data }], guard := none }) (v := ?_) rfl (by as_aux_lemma => kernel_rfl) (by as_aux_lemma => kernel_rfl) (by as_aux_lemma => kernel_rfl) (fun _ _ _ h => h) (Or.inl ⟨by rfl, ?_⟩) (by assumption) ?_
                    rotate_left
                    · intro w' hSw
                      try dsimp only at hSw
                      go_simp
                      try with_reducible rfl
                    try simp only [Act.put, List.setIfInBounds_toArray, List.set_cons_zero, List.set_cons_succ]
                    refine wpAnyH_take (i := 6) (oi := { dst := some 93, op := Op.move (Operand.tmp 92), type := 4, pos := "law.go:70", after := #[{ on := 5, ground := Ground.data }, { on := 4, ground := Ground.chain }], guard := none }) (v := ?_) rfl (by as_aux_lemma => kernel_rfl) (by as_aux_lemma => kernel_rfl) (by as_aux_lemma => kernel_rfl) (fun _ _ _ h => h) (Or.inl ⟨by rfl, ?_⟩) (by assumption) ?_
                    rotate_left
                    · intro w' hSw
                      try dsimp only at hSw
                      go_simp
                      try with_reducible rfl
                    try simp only [Act.put, List.setIfInBounds_toArray, List.set_cons_zero, List.set_cons_succ]
                    refine wpAnyH_take (i := 7) (oi := { dst := some 94, op := Op.move (Operand.tmp 8), type := 50, pos := "law.go:70", after := #[{ on := 6, ground := Ground.guard }], guard := some (6, false) }) (v := ?_) rfl (by as_aux_lemma => kernel_rfl) (by as_aux_lemma => kernel_rfl) (by as_aux_lemma => kernel_rfl) (fun _ _ _ h => h) (Or.inl ⟨by rfl, ?_⟩) (by assumption) ?_
                    rotate_left
                    · intro w' hSw
                      try dsimp only at hSw
                      go_simp
                      try with_reducible rfl
                    try simp only [Act.put, List.setIfInBounds_toArray, List.set_cons_zero, List.set_cons_succ]
                    refine wpAnyH_take (i := 8) (oi := { dst := some 95, op := Op.move (Operand.tmp 10), type := 3, pos := "law.go:70", after := #[{ on := 6, ground := Ground.guard }], guard := some (6, false) }) (v := ?_) rfl (by as_aux_lemma => kernel_rfl) (by as_aux_lemma => kernel_rfl) (by as_aux_lemma => kernel_rfl) (fun _ _ _ h => h) (Or.inl ⟨by rfl, ?_⟩) (by assumption) ?_
                    rotate_left
                    · intro w' hSw
                      try dsimp only at hSw
                      go_simp
                      try with_reducible rfl
                    try simp only [Act.put, List.setIfInBounds_toArray, List.set_cons_zero, List.set_cons_succ]
                    refine wpAnyH_take (i := 9) (oi := { dst := some 96, op := Op.indexAddr 50 (Operand.tmp 94) (Operand.tmp 95), type := 0, pos := "law.go:70", after := #[{ on := 7, ground := Ground.data }, { on := 8, ground := Ground.data }, { on := 6, ground := Ground.guard }], guard := some (6, false) }) (v := ?_) rfl (by as_aux_lemma => kernel_rfl) (by as_aux_lemma => kernel_rfl) (by as_aux_lemma => kernel_rfl) (fun _ _ _ h => h) (Or.inl ⟨by rfl, ?_⟩) (by assumption) ?_
                    rotate_left
                    · intro w' hSw
                      try dsimp only at hSw
                      go_simp
                      try with_reducible rfl
                    try simp only [Act.put, List.setIfInBounds_toArray, List.set_cons_zero, List.set_cons_succ]
                    refine wpAnyH_take (i := 10) (oi := { dst := some 97, op := Op.fieldAddr 60 (Operand.tmp 96) 1, type := 0, pos := "law.go:70", after := #[{ on := 9, ground := Ground.data }, { on := 6, ground := Ground.guard }], guard := some (6, false) }) (v := ?_) rfl (by as_aux_lemma => kernel_rfl) (by as_aux_lemma => kernel_rfl) (by as_aux_lemma => kernel_rfl) (fun _ _ _ h => h) (Or.inl ⟨by rfl, ?_⟩) (by assumption) ?_
                    rotate_left
                    · intro w' hSw
                      try dsimp only at hSw
                      go_simp
                      try with_reducible rfl
                    try simp only [Act.put, List.setIfInBounds_toArray, List.set_cons_zero, List.set_cons_succ]
                    refine wpAnyH_take (i := 11) (oi := { dst := some 98, op := Op.load 3 (Operand.tmp 97), type := 3, pos := "law.go:70", after := #[{ on := 10, ground := Ground.data }, { on := 6, ground := Ground.guard }], guard := some (6, false) }) (v := ?_) rfl (by as_aux_lemma => kernel_rfl) (by as_aux_lemma => kernel_rfl) (by as_aux_lemma => kernel_rfl) (fun _ _ _ h => h) (Or.inl ⟨by rfl, ?_⟩) (by assumption) ?_
                    rotate_left
                    · intro w' hSw
                      try dsimp only at hSw
                      go_simp
                      try with_reducible rfl
                    try simp only [Act.put, List.setIfInBounds_toArray, List.set_cons_zero, List.set_cons_succ]
                    refine wpAnyH_take (i := 12) (oi := { dst := some 99, op := Op.fieldAddr 30 (Operand.tmp 4) 0, type := 0, pos := "law.go:70", after := #[{ on := 6, ground := Ground.guard }], guard := some (6, false) }) (v := ?_) rfl (by as_aux_lemma => kernel_rfl) (by as_aux_lemma => kernel_rfl) (by as_aux_lemma => kernel_rfl) (fun _ _ _ h => h) (Or.inl ⟨by rfl, ?_⟩) (by assumption) ?_
                    rotate_left
                    · intro w' hSw
                      try dsimp only at hSw
                      go_simp
                      try with_reducible rfl
                    try simp only [Act.put, List.setIfInBounds_toArray, List.set_cons_zero, List.set_cons_succ]
                    refine wpAnyH_take (i := 13) (oi := { dst := some 100, op := Op.load 3 (Operand.tmp 99), type := 3, pos := "law.go:70", after := #[{ on := 12, ground := Ground.data }, { on := 6, ground := Ground.guard }], guard := some (6, false) }) (v := ?_) rfl (by as_aux_lemma => kernel_rfl) (by as_aux_lemma => kernel_rfl) (by as_aux_lemma => kernel_rfl) (fun _ _ _ h => h) (Or.inl ⟨by rfl, ?_⟩) (by assumption) ?_
                    rotate_left
                    · intro w' hSw
                      try dsimp only at hSw
                      go_simp
                      try with_reducible rfl
                    try simp only [Act.put, List.setIfInBounds_toArray, List.set_cons_zero, List.set_cons_succ]
                    refine wpAnyH_take (i := 14) (oi := { dst := some 101, op := Op.move (Operand.tmp 10), type := 3, pos := "law.go:70", after := #[{ on := 6, ground := Ground.guard }], guard := some (6, false) }) (v := ?_) rfl (by as_aux_lemma => kernel_rfl) (by as_aux_lemma => kernel_rfl) (by as_aux_lemma => kernel_rfl) (fun _ _ _ h => h) (Or.inl ⟨by rfl, ?_⟩) (by assumption) ?_
                    rotate_left
                    · intro w' hSw
                      try dsimp only at hSw
                      go_simp
                      try with_reducible rfl
                    try simp only [Act.put, List.setIfInBounds_toArray, List.set_cons_zero, List.set_cons_succ]
                    refine wpAnyH_take (i := 15) (oi := { dst := some 102, op := Op.binOp BinOp.add 3 (Operand.tmp 100) (Operand.tmp 101) 3, type := 3, pos := "law.go:70", after := #[{ on := 13, ground := Ground.data }, { on := 14, ground := Ground.data }, { on := 6, ground := Ground.guard }], guard := some (6, false) }) (v := ?_) rfl (by as_aux_lemma => kernel_rfl) (by as_aux_lemma => kernel_rfl) (by as_aux_lemma => kernel_rfl) (fun _ _ _ h => h) (Or.inl ⟨by rfl, ?_⟩) (by assumption) ?_
                    rotate_left
                    · intro w' hSw
                      try dsimp only at hSw
                      go_simp
                      try with_reducible rfl
                    try simp only [Act.put, List.setIfInBounds_toArray, List.set_cons_zero, List.set_cons_succ]
                    refine wpAnyH_take (i := 16) (oi := { dst := some 103, op := Op.binOp BinOp.neq 3 (Operand.tmp 98) (Operand.tmp 102) 3, type := 4, pos := "law.go:70", after := #[{ on := 11, ground := Ground.data }, { on := 15, ground := Ground.data }, { on := 6, ground := Ground.guard }], guard := some (6, false) }) (v := ?_) rfl (by as_aux_lemma => kernel_rfl) (by as_aux_lemma => kernel_rfl) (by as_aux_lemma => kernel_rfl) (fun _ _ _ h => h) (Or.inl ⟨by rfl, ?_⟩) (by assumption) ?_
                    rotate_left
                    · intro w' hSw
                      try dsimp only at hSw
                      go_simp
                      try with_reducible rfl
                    try simp only [Act.put, List.setIfInBounds_toArray, List.set_cons_zero, List.set_cons_succ]
                    refine wpAnyH_take (i := 17) (oi := { dst := some 104, op := Op.pick (Operand.tmp 93) (Operand.const (Value.bool true)) (Operand.tmp 103), type := 4, pos := "law.go:70", after := #[{ on := 6, ground := Ground.data }, { on := 16, ground := Ground.data }], guard := none }) (v := ?_) rfl (by as_aux_lemma => kernel_rfl) (by as_aux_lemma => kernel_rfl) (by as_aux_lemma => kernel_rfl) (fun _ _ _ h => h) (Or.inl ⟨by rfl, ?_⟩) (by assumption) ?_
                    rotate_left
                    · intro w' hSw
                      try dsimp only at hSw
                      go_simp
                      try with_reducible rfl
                    try simp only [Act.put, List.setIfInBounds_toArray, List.set_cons_zero, List.set_cons_succ]
                    refine wpAnyH_take (i := 18) (oi := { dst := some 105, op := Op.move (Operand.tmp 104), type := 4, pos := "law.go:70", after := #[{ on := 17, ground := Ground.data }, { on := 6, ground := Ground.chain }], guard := none }) (v := ?_) rfl (by as_aux_lemma => kernel_rfl) (by as_aux_lemma => kernel_rfl) (by as_aux_lemma => kernel_rfl) (fun _ _ _ h => h) (Or.inl ⟨by rfl, ?_⟩) (by assumption) ?_
                    rotate_left
                    · intro w' hSw
                      try dsimp only at hSw
                      go_simp
                      try with_reducible rfl
                    try simp only [Act.put, List.setIfInBounds_toArray, List.set_cons_zero, List.set_cons_succ]
                    refine wpAnyH_take (i := 19) (oi := { dst := some 106, op := Op.move (Operand.tmp 8), type := 50, pos := "law.go:70", after := #[{ on := 18, ground := Ground.guard }], guard := some (18, false) }) (v := ?_) rfl (by as_aux_lemma => kernel_rfl) (by as_aux_lemma => kernel_rfl) (by as_aux_lemma => kernel_rfl) (fun _ _ _ h => h) (Or.inl ⟨by rfl, ?_⟩) (by assumption) ?_
                    rotate_left
                    · intro w' hSw
                      try dsimp only at hSw
                      go_simp
                      try with_reducible rfl
                    try simp only [Act.put, List.setIfInBounds_toArray, List.set_cons_zero, List.set_cons_succ]
                    refine wpAnyH_take (i := 20) (oi := { dst := some 107, op := Op.move (Operand.tmp 10), type := 3, pos := "law.go:70", after := #[{ on := 18, ground := Ground.guard }], guard := some (18, false) }) (v := ?_) rfl (by as_aux_lemma => kernel_rfl) (by as_aux_lemma => kernel_rfl) (by as_aux_lemma => kernel_rfl) (fun _ _ _ h => h) (Or.inl ⟨by rfl, ?_⟩) (by assumption) ?_
                    rotate_left
                    · intro w' hSw
                      try dsimp only at hSw
                      go_simp
                      try with_reducible rfl
                    try simp only [Act.put, List.setIfInBounds_toArray, List.set_cons_zero, List.set_cons_succ]
                    refine wpAnyH_take (i := 21) (oi := { dst := some 108, op := Op.indexAddr 50 (Operand.tmp 106) (Operand.tmp 107), type := 0, pos := "law.go:70", after := #[{ on := 19, ground := Ground.data }, { on := 20, ground := Ground.data }, { on := 18, ground := Ground.guard }], guard := some (18, false) }) (v := ?_) rfl (by as_aux_lemma => kernel_rfl) (by as_aux_lemma => kernel_rfl) (by as_aux_lemma => kernel_rfl) (fun _ _ _ h => h) (Or.inl ⟨by rfl, ?_⟩) (by assumption) ?_
                    rotate_left
                    · intro w' hSw
                      try dsimp only at hSw
                      go_simp
                      try with_reducible rfl
                    try simp only [Act.put, List.setIfInBounds_toArray, List.set_cons_zero, List.set_cons_succ]
                    refine wpAnyH_take (i := 22) (oi := { dst := some 109, op := Op.fieldAddr 60 (Operand.tmp 108) 0, type := 0, pos := "law.go:70", after := #[{ on := 21, ground := Ground.data }, { on := 18, ground := Ground.guard }], guard := some (18, false) }) (v := ?_) rfl (by as_aux_lemma => kernel_rfl) (by as_aux_lemma => kernel_rfl) (by as_aux_lemma => kernel_rfl) (fun _ _ _ h => h) (Or.inl ⟨by rfl, ?_⟩) (by assumption) ?_
                    rotate_left
                    · intro w' hSw
                      try dsimp only at hSw
                      go_simp
                      try with_reducible rfl
                    try simp only [Act.put, List.setIfInBounds_toArray, List.set_cons_zero, List.set_cons_succ]
                    refine wpAnyH_take (i := 23) (oi := { dst := some 110, op := Op.load 3 (Operand.tmp 109), type := 3, pos := "law.go:70", after := #[{ on := 22, ground := Ground.data }, { on := 18, ground := Ground.guard }], guard := some (18, false) }) (v := ?_) rfl (by as_aux_lemma => kernel_rfl) (by as_aux_lemma => kernel_rfl) (by as_aux_lemma => kernel_rfl) (fun _ _ _ h => h) (Or.inl ⟨by rfl, ?_⟩) (by assumption) ?_
                    rotate_left
                    · intro w' hSw
                      try dsimp only at hSw
                      go_simp
                      try with_reducible rfl
                    try simp only [Act.put, List.setIfInBounds_toArray, List.set_cons_zero, List.set_cons_succ]
                    refine wpAnyH_take (i := 24) (oi := { dst := some 111, op := Op.binOp BinOp.eql 3 (Operand.tmp 110) (Operand.const (Value.int IntKind.i64 3)) 3, type := 4, pos := "law.go:70", after := #[{ on := 23, ground := Ground.data }, { on := 18, ground := Ground.guard }], guard := some (18, false) }) (v := ?_) rfl (by as_aux_lemma => kernel_rfl) (by as_aux_lemma => kernel_rfl) (by as_aux_lemma => kernel_rfl) (fun _ _ _ h => h) (Or.inl ⟨by rfl, ?_⟩) (by assumption) ?_
                    rotate_left
                    · intro w' hSw
                      try dsimp only at hSw
                      go_simp
                      try with_reducible rfl
                    try simp only [Act.put, List.setIfInBounds_toArray, List.set_cons_zero, List.set_cons_succ]
                    refine wpAnyH_take (i := 25) (oi := { dst := some 112, op := Op.move (Operand.tmp 111), type := 4, pos := "law.go:70", after := #[{ on := 24, ground := Ground.data }, { on := 18, ground := Ground.chain }, { on := 18, ground := Ground.guard }], guard := some (18, false) }) (v := ?_) rfl (by as_aux_lemma => kernel_rfl) (by as_aux_lemma => kernel_rfl) (by as_aux_lemma => kernel_rfl) (fun _ _ _ h => h) (Or.inl ⟨by rfl, ?_⟩) (by assumption) ?_
                    rotate_left
                    · intro w' hSw
                      try dsimp only at hSw
                      go_simp
                      try with_reducible rfl
                    try simp only [Act.put, List.setIfInBounds_toArray, List.set_cons_zero, List.set_cons_succ]
                    refine wpAnyH_take (i := 26) (oi := { dst := some 113, op := Op.move (Operand.tmp 10), type := 3, pos := "law.go:70", after := #[{ on := 25, ground := Ground.guard }], guard := some (25, true) }) (v := ?_) rfl (by as_aux_lemma => kernel_rfl) (by as_aux_lemma => kernel_rfl) (by as_aux_lemma => kernel_rfl) (fun _ _ _ h => h) (Or.inl ⟨by rfl, ?_⟩) (by assumption) ?_
                    rotate_left
                    · intro w' hSw
                      try dsimp only at hSw
                      go_simp
                      try with_reducible rfl
                    try simp only [Act.put, List.setIfInBounds_toArray, List.set_cons_zero, List.set_cons_succ]
                    refine wpAnyH_take (i := 27) (oi := { dst := some 114, op := Op.binOp BinOp.gtr 3 (Operand.tmp 113) (Operand.const (Value.int IntKind.i64 0)) 3, type := 4, pos := "law.go:70", after := #[{ on := 26, ground := Ground.data }, { on := 25, ground := Ground.guard }], guard := some (25, true) }) (v := ?_) rfl (by as_aux_lemma => kernel_rfl) (by as_aux_lemma => kernel_rfl) (by as_aux_lemma => kernel_rfl) (fun _ _ _ h => h) (Or.inl ⟨by rfl, ?_⟩) (by assumption) ?_
                    rotate_left
                    · intro w' hSw
                      try dsimp only at hSw
                      go_simp
                      try with_reducible rfl
                    try simp only [Act.put, List.setIfInBounds_toArray, List.set_cons_zero, List.set_cons_succ]
                    refine wpAnyH_take (i := 28) (oi := { dst := some 115, op := Op.pick (Operand.tmp 112) (Operand.tmp 114) (Operand.const (Value.bool false)), type := 4, pos := "law.go:70", after := #[{ on := 25, ground := Ground.data }, { on := 27, ground := Ground.data }, { on := 18, ground := Ground.guard }], guard := some (18, false) }) (v := ?_) rfl (by as_aux_lemma => kernel_rfl) (by as_aux_lemma => kernel_rfl) (by as_aux_lemma => kernel_rfl) (fun _ _ _ h => h) (Or.inl ⟨by rfl, ?_⟩) (by assumption) ?_
                    rotate_left
                    · intro w' hSw
                      try dsimp only at hSw
                      go_simp
                      try with_reducible rfl
                    try simp only [Act.put, List.setIfInBounds_toArray, List.set_cons_zero, List.set_cons_succ]
                    refine wpAnyH_take (i := 29) (oi := { dst := some 116, op := Op.pick (Operand.tmp 105) (Operand.const (Value.bool true)) (Operand.tmp 115), type := 4, pos := "law.go:70", after := #[{ on := 18, ground := Ground.data }, { on := 28, ground := Ground.data }], guard := none }) (v := ?_) rfl (by as_aux_lemma => kernel_rfl) (by as_aux_lemma => kernel_rfl) (by as_aux_lemma => kernel_rfl) (fun _ _ _ h => h) (Or.inl ⟨by rfl, ?_⟩) (by assumption) ?_
                    rotate_left
                    · intro w' hSw
                      try dsimp only at hSw
                      go_simp
                      try with_reducible rfl
                    try simp only [Act.put, List.setIfInBounds_toArray, List.set_cons_zero, List.set_cons_succ]
                    refine wpAnyH_take (i := 30) (oi := { dst := some 117, op := Op.move (Operand.tmp 116), type := 4, pos := "law.go:70", after := #[{ on := 29, ground := Ground.data }, { on := 25, ground := Ground.chain }], guard := none }) (v := ?_) rfl (by as_aux_lemma => kernel_rfl) (by as_aux_lemma => kernel_rfl) (by as_aux_lemma => kernel_rfl) (fun _ _ _ h => h) (Or.inl ⟨by rfl, ?_⟩) (by assumption) ?_
                    rotate_left
                    · intro w' hSw
                      try dsimp only at hSw
                      go_simp
                      try with_reducible rfl
                    try simp only [Act.put, List.setIfInBounds_toArray, List.set_cons_zero, List.set_cons_succ]
                    refine wpAnyH_take (i := 31) (oi := { dst := some 118, op := Op.move (Operand.tmp 8), type := 50, pos := "law.go:70", after := #[{ on := 30, ground := Ground.guard }], guard := some (30, false) }) (v := ?_) rfl (by as_aux_lemma => kernel_rfl) (by as_aux_lemma => kernel_rfl) (by as_aux_lemma => kernel_rfl) (fun _ _ _ h => h) (Or.inl ⟨by rfl, ?_⟩) (by assumption) ?_
                    rotate_left
                    · intro w' hSw
                      try dsimp only at hSw
                      go_simp
                      try with_reducible rfl
                    try simp only [Act.put, List.setIfInBounds_toArray, List.set_cons_zero, List.set_cons_succ]
                    refine wpAnyH_take (i := 32) (oi := { dst := some 119, op := Op.move (Operand.tmp 10), type := 3, pos := "law.go:70", after := #[{ on := 30, ground := Ground.guard }], guard := some (30, false) }) (v := ?_) rfl (by as_aux_lemma => kernel_rfl) (by as_aux_lemma => kernel_rfl) (by as_aux_lemma => kernel_rfl) (fun _ _ _ h => h) (Or.inl ⟨by rfl, ?_⟩) (by assumption) ?_
                    rotate_left
                    · intro w' hSw
                      try dsimp only at hSw
                      go_simp
                      try with_reducible rfl
                    try simp only [Act.put, List.setIfInBounds_toArray, List.set_cons_zero, List.set_cons_succ]
                    refine wpAnyH_take (i := 33) (oi := { dst := some 120, op := Op.indexAddr 50 (Operand.tmp 118) (Operand.tmp 119), type := 0, pos := "law.go:70", after := #[{ on := 31, ground := Ground.data }, { on := 32, ground := Ground.data }, { on := 30, ground := Ground.guard }], guard := some (30, false) }) (v := ?_) rfl (by as_aux_lemma => kernel_rfl) (by as_aux_lemma => kernel_rfl) (by as_aux_lemma => kernel_rfl) (fun _ _ _ h => h) (Or.inl ⟨by rfl, ?_⟩) (by assumption) ?_
                    rotate_left
                    · intro w' hSw
                      try dsimp only at hSw
                      go_simp
                      try with_reducible rfl
                    try simp only [Act.put, List.setIfInBounds_toArray, List.set_cons_zero, List.set_cons_succ]
                    refine wpAnyH_take (i := 34) (oi := { dst := some 121, op := Op.fieldAddr 60 (Operand.tmp 120) 0, type := 0, pos := "law.go:70", after := #[{ on := 33, ground := Ground.data }, { on := 30, ground := Ground.guard }], guard := some (30, false) }) (v := ?_) rfl (by as_aux_lemma => kernel_rfl) (by as_aux_lemma => kernel_rfl) (by as_aux_lemma => kernel_rfl) (fun _ _ _ h => h) (Or.inl ⟨by rfl, ?_⟩) (by assumption) ?_
                    rotate_left
                    · intro w' hSw
                      try dsimp only at hSw
                      go_simp
                      try with_reducible rfl
                    try simp only [Act.put, List.setIfInBounds_toArray, List.set_cons_zero, List.set_cons_succ]
                    refine wpAnyH_take (i := 35) (oi := { dst := some 122, op := Op.load 3 (Operand.tmp 121), type := 3, pos := "law.go:70", after := #[{ on := 34, ground := Ground.data }, { on := 30, ground := Ground.guard }], guard := some (30, false) }) (v := ?_) rfl (by as_aux_lemma => kernel_rfl) (by as_aux_lemma => kernel_rfl) (by as_aux_lemma => kernel_rfl) (fun _ _ _ h => h) (Or.inl ⟨by rfl, ?_⟩) (by assumption) ?_
                    rotate_left
                    · intro w' hSw
                      try dsimp only at hSw
                      go_simp
                      try with_reducible rfl
                    try simp only [Act.put, List.setIfInBounds_toArray, List.set_cons_zero, List.set_cons_succ]
                    refine wpAnyH_take (i := 36) (oi := { dst := some 123, op := Op.binOp BinOp.eql 3 (Operand.tmp 122) (Operand.const (Value.int IntKind.i64 2)) 3, type := 4, pos := "law.go:70", after := #[{ on := 35, ground := Ground.data }, { on := 30, ground := Ground.guard }], guard := some (30, false) }) (v := ?_) rfl (by as_aux_lemma => kernel_rfl) (by as_aux_lemma => kernel_rfl) (by as_aux_lemma => kernel_rfl) (fun _ _ _ h => h) (Or.inl ⟨by rfl, ?_⟩) (by assumption) ?_
                    rotate_left
                    · intro w' hSw
                      try dsimp only at hSw
                      go_simp
                      try with_reducible rfl
                    try simp only [Act.put, List.setIfInBounds_toArray, List.set_cons_zero, List.set_cons_succ]
                    refine wpAnyH_take (i := 37) (oi := { dst := some 124, op := Op.move (Operand.tmp 123), type := 4, pos := "law.go:70", after := #[{ on := 36, ground := Ground.data }, { on := 30, ground := Ground.chain }, { on := 30, ground := Ground.guard }], guard := some (30, false) }) (v := ?_) rfl (by as_aux_lemma => kernel_rfl) (by as_aux_lemma => kernel_rfl) (by as_aux_lemma => kernel_rfl) (fun _ _ _ h => h) (Or.inl ⟨by rfl, ?_⟩) (by assumption) ?_
                    rotate_left
                    · intro w' hSw
                      try dsimp only at hSw
                      go_simp
                      try with_reducible rfl
                    try simp only [Act.put, List.setIfInBounds_toArray, List.set_cons_zero, List.set_cons_succ]
                    refine wpAnyH_take (i := 38) (oi := { dst := some 125, op := Op.move (Operand.tmp 10), type := 3, pos := "law.go:70", after := #[{ on := 37, ground := Ground.guard }], guard := some (37, true) }) (v := undef) rfl (by as_aux_lemma => kernel_rfl) (by as_aux_lemma => kernel_rfl) (by as_aux_lemma => kernel_rfl) (fun _ _ _ h => h) (Or.inr ⟨by rfl, rfl⟩) (by assumption) ?_
                    try simp only [Act.put, List.setIfInBounds_toArray, List.set_cons_zero, List.set_cons_succ]
                    refine wpAnyH_take (i := 39) (oi := { dst := some 126, op := Op.move (Operand.tmp 8), type := 50, pos := "law.go:70", after := #[{ on := 37, ground := Ground.guard }], guard := some (37, true) }) (v := undef) rfl (by as_aux_lemma => kernel_rfl) (by as_aux_lemma => kernel_rfl) (by as_aux_lemma => kernel_rfl) (fun _ _ _ h => h) (Or.inr ⟨by rfl, rfl⟩) (by assumption) ?_
                    try simp only [Act.put, List.setIfInBounds_toArray, List.set_cons_zero, List.set_cons_succ]
                    refine wpAnyH_take (i := 40) (oi := { dst := some 127, op := Op.call { callee := Callee.builtin Builtin.len, args := #[Operand.tmp 126], argTypes := #[50] }, type := 3, pos := "law.go:70", after := #[{ on := 39, ground := Ground.data }, { on := 37, ground := Ground.guard }], guard := some (37, true) }) (v := undef) rfl (by as_aux_lemma => kernel_rfl) (by as_aux_lemma => kernel_rfl) (by as_aux_lemma => kernel_rfl) (fun _ _ _ h => h) (Or.inr ⟨by rfl, rfl⟩) (by assumption) ?_
                    try simp only [Act.put, List.setIfInBounds_toArray, List.set_cons_zero, List.set_cons_succ]
                    refine wpAnyH_take (i := 41) (oi := { dst := some 128, op := Op.binOp BinOp.sub 3 (Operand.tmp 127) (Operand.const (Value.int IntKind.i64 1)) 3, type := 3, pos := "law.go:70", after := #[{ on := 40, ground := Ground.data }, { on := 37, ground := Ground.guard }], guard := some (37, true) }) (v := undef) rfl (by as_aux_lemma => kernel_rfl) (by as_aux_lemma => kernel_rfl) (by as_aux_lemma => kernel_rfl) (fun _ _ _ h => h) (Or.inr ⟨by rfl, rfl⟩) (by assumption) ?_
                    try simp only [Act.put, List.setIfInBounds_toArray, List.set_cons_zero, List.set_cons_succ]
                    refine wpAnyH_take (i := 42) (oi := { dst := some 129, op := Op.binOp BinOp.neq 3 (Operand.tmp 125) (Operand.tmp 128) 3, type := 4, pos := "law.go:70", after := #[{ on := 38, ground := Ground.data }, { on := 41, ground := Ground.data }, { on := 37, ground := Ground.guard }], guard := some (37, true) }) (v := undef) rfl (by as_aux_lemma => kernel_rfl) (by as_aux_lemma => kernel_rfl) (by as_aux_lemma => kernel_rfl) (fun _ _ _ h => h) (Or.inr ⟨by rfl, rfl⟩) (by assumption) ?_
                    try simp only [Act.put, List.setIfInBounds_toArray, List.set_cons_zero, List.set_cons_succ]
                    refine wpAnyH_take (i := 43) (oi := { dst := some 130, op := Op.pick (Operand.tmp 124) (Operand.tmp 129) (Operand.const (Value.bool false)), type := 4, pos := "law.go:70", after := #[{ on := 37, ground := Ground.data }, { on := 42, ground := Ground.data }, { on := 30, ground := Ground.guard }], guard := some (30, false) }) (v := ?_) rfl (by as_aux_lemma => kernel_rfl) (by as_aux_lemma => kernel_rfl) (by as_aux_lemma => kernel_rfl) (fun _ _ _ h => h) (Or.inl ⟨by rfl, ?_⟩) (by assumption) ?_
                    rotate_left
                    · intro w' hSw
                      try dsimp only at hSw
                      go_simp
                      try with_reducible rfl
                    try simp only [Act.put, List.setIfInBounds_toArray, List.set_cons_zero, List.set_cons_succ]
                    refine wpAnyH_take (i := 44) (oi := { dst := some 131, op := Op.pick (Operand.tmp 117) (Operand.const (Value.bool true)) (Operand.tmp 130), type := 4, pos := "law.go:70", after := #[{ on := 30, ground := Ground.data }, { on := 43, ground := Ground.data }], guard := none }) (v := ?_) rfl (by as_aux_lemma => kernel_rfl) (by as_aux_lemma => kernel_rfl) (by as_aux_lemma => kernel_rfl) (fun _ _ _ h => h) (Or.inl ⟨by rfl, ?_⟩) (by assumption) ?_
                    rotate_left
                    · intro w' hSw
                      try dsimp only at hSw
                      go_simp
                      try with_reducible rfl
                    try simp only [Act.put, List.setIfInBounds_toArray, List.set_cons_zero, List.set_cons_succ]
                    refine wpAnyH_take (i := 45) (oi := { dst := some 132, op := Op.move (Operand.tmp 131), type := 4, pos := "law.go:70", after := #[{ on := 44, ground := Ground.data }, { on := 37, ground := Ground.chain }], guard := none }) (v := ?_) rfl (by as_aux_lemma => kernel_rfl) (by as_aux_lemma => kernel_rfl) (by as_aux_lemma => kernel_rfl) (fun _ _ _ h => h) (Or.inl ⟨by rfl, ?_⟩) (by assumption) ?_
                    rotate_left
                    · intro w' hSw
                      try dsimp only at hSw
                      go_simp
                      try with_reducible rfl
                    try simp only [Act.put, List.setIfInBounds_toArray, List.set_cons_zero, List.set_cons_succ]
                    refine wpAnyH_take (i := 46) (oi := { dst := some 133, op := Op.move (Operand.tmp 8), type := 50, pos := "law.go:70", after := #[{ on := 45, ground := Ground.guard }], guard := some (45, false) }) (v := ?_) rfl (by as_aux_lemma => kernel_rfl) (by as_aux_lemma => kernel_rfl) (by as_aux_lemma => kernel_rfl) (fun _ _ _ h => h) (Or.inl ⟨by rfl, ?_⟩) (by assumption) ?_
                    rotate_left
                    · intro w' hSw
                      try dsimp only at hSw
                      go_simp
                      try with_reducible rfl
                    try simp only [Act.put, List.setIfInBounds_toArray, List.set_cons_zero, List.set_cons_succ]
                    refine wpAnyH_take (i := 47) (oi := { dst := some 134, op := Op.move (Operand.tmp 10), type := 3, pos := "law.go:70", after := #[{ on := 45, ground := Ground.guard }], guard := some (45, false) }) (v := ?_) rfl (by as_aux_lemma => kernel_rfl) (by as_aux_lemma => kernel_rfl) (by as_aux_lemma => kernel_rfl) (fun _ _ _ h => h) (Or.inl ⟨by rfl, ?_⟩) (by assumption) ?_
                    rotate_left
                    · intro w' hSw
                      try dsimp only at hSw
                      go_simp
                      try with_reducible rfl
                    try simp only [Act.put, List.setIfInBounds_toArray, List.set_cons_zero, List.set_cons_succ]
                    refine wpAnyH_take (i := 48) (oi := { dst := some 135, op := Op.indexAddr 50 (Operand.tmp 133) (Operand.tmp 134), type := 0, pos := "law.go:70", after := #[{ on := 46, ground := Ground.data }, { on := 47, ground := Ground.data }, { on := 45, ground := Ground.guard }], guard := some (45, false) }) (v := ?_) rfl (by as_aux_lemma => kernel_rfl) (by as_aux_lemma => kernel_rfl) (by as_aux_lemma => kernel_rfl) (fun _ _ _ h => h) (Or.inl ⟨by rfl, ?_⟩) (by assumption) ?_
                    rotate_left
                    · intro w' hSw
                      try dsimp only at hSw
                      go_simp
                      try with_reducible rfl
                    try simp only [Act.put, List.setIfInBounds_toArray, List.set_cons_zero, List.set_cons_succ]
                    refine wpAnyH_take (i := 49) (oi := { dst := some 136, op := Op.fieldAddr 60 (Operand.tmp 135) 0, type := 0, pos := "law.go:70", after := #[{ on := 48, ground := Ground.data }, { on := 45, ground := Ground.guard }], guard := some (45, false) }) (v := ?_) rfl (by as_aux_lemma => kernel_rfl) (by as_aux_lemma => kernel_rfl) (by as_aux_lemma => kernel_rfl) (fun _ _ _ h => h) (Or.inl ⟨by rfl, ?_⟩) (by assumption) ?_
                    rotate_left
                    · intro w' hSw
                      try dsimp only at hSw
                      go_simp
                      try with_reducible rfl
                    try simp only [Act.put, List.setIfInBounds_toArray, List.set_cons_zero, List.set_cons_succ]
                    refine wpAnyH_take (i := 50) (oi := { dst := some 137, op := Op.load 3 (Operand.tmp 136), type := 3, pos := "law.go:70", after := #[{ on := 49, ground := Ground.data }, { on := 45, ground := Ground.guard }], guard := some (45, false) }) (v := ?_) rfl (by as_aux_lemma => kernel_rfl) (by as_aux_lemma => kernel_rfl) (by as_aux_lemma => kernel_rfl) (fun _ _ _ h => h) (Or.inl ⟨by rfl, ?_⟩) (by assumption) ?_
                    rotate_left
                    · intro w' hSw
                      try dsimp only at hSw
                      go_simp
                      try with_reducible rfl
                    try simp only [Act.put, List.setIfInBounds_toArray, List.set_cons_zero, List.set_cons_succ]
                    refine wpAnyH_take (i := 51) (oi := { dst := some 138, op := Op.binOp BinOp.eql 3 (Operand.tmp 137) (Operand.const (Value.int IntKind.i64 4)) 3, type := 4, pos := "law.go:70", after := #[{ on := 50, ground := Ground.data }, { on := 45, ground := Ground.guard }], guard := some (45, false) }) (v := ?_) rfl (by as_aux_lemma => kernel_rfl) (by as_aux_lemma => kernel_rfl) (by as_aux_lemma => kernel_rfl) (fun _ _ _ h => h) (Or.inl ⟨by rfl, ?_⟩) (by assumption) ?_
                    rotate_left
                    · intro w' hSw
                      try dsimp only at hSw
                      go_simp
                      try with_reducible rfl
                    try simp only [Act.put, List.setIfInBounds_toArray, List.set_cons_zero, List.set_cons_succ]
                    refine wpAnyH_take (i := 52) (oi := { dst := some 139, op := Op.pick (Operand.tmp 132) (Operand.const (Value.bool true)) (Operand.tmp 138), type := 4, pos := "law.go:70", after := #[{ on := 45, ground := Ground.data }, { on := 51, ground := Ground.data }], guard := none }) (v := ?_) rfl (by as_aux_lemma => kernel_rfl) (by as_aux_lemma => kernel_rfl) (by as_aux_lemma => kernel_rfl) (fun _ _ _ h => h) (Or.inl ⟨by rfl, ?_⟩) (by assumption) ?_
                    rotate_left
                    · intro w' hSw
                      try dsimp only at hSw
                      go_simp
                      try with_reducible rfl
                    try simp only [Act.put, List.setIfInBounds_toArray, List.set_cons_zero, List.set_cons_succ]
                    refine wpAnyH_done (by kernel_rfl) ?_ _
                    have HN2 := Lib.hid (below2Z HN.out (K13001.out))
                    go_wp2_with fail
                    go_roundw
                    case rel => exact ⟨j + 1, by omega, by go_num, HN2⟩
                    case measure => simp [intOf]; omega
                have hjn : j = fs.length := by omega
                have L8r := Lib.hid (upQ L8.out HN.out)
                have WBr := Lib.hid (upQ WB.out HN.out)
                have CBr := Lib.hid (upQ CB.out HN.out)
                clear LBr L8 WB CB LB
                skip
                have L8 := L8r
                have WB := WBr
                have CB := CBr
                clear L8r WBr CBr
                replace QM := Lib.hid (Chgs.later QM.out HN.out)
                replace HB := Lib.hid (below2Z HB.out HN.out)
                by_cases hlf : (fs.length : Int) < lv
                case pos =>
                  obtain ⟨hq1, hq2⟩ := FA6.out hlf
                  subst hq1
                  have t5 : decide ((fs.length : Int) < lv) = true := by simpa using hlf
                  have t6 : decide (now - md < ce) = true := by simpa using hq2
                  obtain ⟨⟨L8c0, L8c1, L8c2, L8c3, L8c4, L8c5, L8c6⟩, ⟨L8f0, L8f1, L8f2, L8f3, L8f4, L8f5, L8f6⟩⟩ := blk7 L8.out
                  go_wp2_with fail
                  clear L8c0 L8c1 L8c2 L8c3 L8c4 L8c5 L8c6 L8f0 L8f1 L8f2 L8f3 L8f4 L8f5 L8f6
                  refine (lquiet_any QM.out ml mn (seq + fs.length) mt ma md QU).mono ?_
                  rintro e w2001 ⟨rfl, b2001⟩
                  replace L8 := Lib.hid (upQ L8.out b2001)
                  replace WB := Lib.hid (upQ WB.out b2001)
                  replace CB := Lib.hid (upQ CB.out b2001)
                  replace QM := Lib.hid (Chgs.later QM.out b2001)
                  replace HB := Lib.hid (below2Z HB.out b2001)
                  clear b2001
                  obtain ⟨⟨L8c0, L8c1, L8c2, L8c3, L8c4, L8c5, L8c6⟩, ⟨L8f0, L8f1, L8f2, L8f3, L8f4, L8f5, L8f6⟩⟩ := blk7 L8.out
                  obtain ⟨⟨WBc0, WBc1⟩, ⟨WBf0, WBf1⟩⟩ := blk2 WB.out
                  obtain ⟨⟨CBc0, CBc1, CBc2, CBc3⟩, ⟨CBf0, CBf1, CBf2, CBf3⟩⟩ := blk4 CB.out
                  go_wp2_with fail
                  clear L8c0 L8c1 L8c2 L8c3 L8c4 L8c5 L8c6 L8f0 L8f1 L8f2 L8f3 L8f4 L8f5 L8f6 WBc0 WBc1 WBf0 WBf1 CBc0 CBc1 CBc2 CBc3 CBf0 CBf1 CBf2 CBf3
                  refine (live18 _).mono ?_
                  rintro e w2002 ⟨rfl, b2002⟩
                  replace HB := Lib.hid (below2Z HB.out b2002)
                  clear b2002
                  go_wp2_with fail
                  go_ret
                  exact ⟨rfl, HB.out⟩
                case neg =>
                  have t5 : decide ((fs.length : Int) < lv) = false := by simpa using hlf
                  have hlq : lv = (fs.length : Int) := by omega
                  subst hlq
                  clear L8 WB CB QM
                  go_wp2_with fail
                  refine (live18 _).mono ?_
                  rintro e w3001 ⟨rfl, b3001⟩
                  replace HB := Lib.hid (below2Z HB.out b3001)
                  clear b3001
                  go_wp2_with fail
                  go_ret
                  exact ⟨rfl, HB.out⟩

theorem walkLinkFrames {w : World} (c : Cfg) (_ : CfgFit c) (seq : Int) (v : Value) (la : Bool) (tok at' : Int) (sn : Bool) (dg : Int) (_ : (Lit.int .i64 seq).wf = true) (hv : ∃ t : List Chg, Chgs w v t) (_ : (Lit.int .i64 tok).wf = true) (_ : (Lit.int .i64 at').wf = true) (_ : (Lit.int .i64 dg).wf = true) (vt : Value) (now : Int) (ht : ∃ t : List Row, Tab w vt t) (_ : (Lit.int .i64 now).wf = true) :
    Calls Tryz.prog 5 #[.agg #[.int .i64 c.room, .int .i64 c.burst, .int .i64 c.rate, .int .i64 c.per], .agg #[.int .i64 seq, v, .bool la, .int .i64 tok, .int .i64 at', .bool sn, .int .i64 dg], .agg #[vt, .int .i64 now]] w fun e w' => e = .returned (.bool true) ∧ Below w.heap.size w w' := by
  obtain ⟨ql, hq⟩ := hv
  obtain ⟨view, hw⟩ := ht
  exact lfr hq hw c.room c.burst c.rate c.per seq tok at' dg la sn now

end Go.Proofs.YtndicdomdndjaaaGreat

end

section

/-
  THE FRAME OF THE PROOF OF LinkFrames: for every input the law returns true, and each argument reads behind the call as it read before. No condition.
-/
namespace Go.Proofs.YtndicdomdndjaaaGreat.linkFrames
open Go.ChangeShapes Go.WideShapes Go.ChangeAt Go.RowKit
open Go.ChangeMaps (open_string shut_string)
set_option linter.unusedVariables false

theorem own : ownKnob Tryz.prog.godebug = none := by kernel_rfl
theorem laidOut : laidOutB Tryz.prog = true := by kernel_rfl

set_option maxRecDepth 100000 in
theorem lifted (os : Os) (started : os.Started) (H : Type) (enc : TypeId × Value → H) :
    ReturnsInHanded {} Tryz.checked os 5 .any (Rows.linkFramesSpec.pre6 enc Tryz.prog Tryz.f5 Rows.linkFramesRow.domain false) (Rows.linkFramesSpec.post enc Tryz.prog Tryz.f5 false true false false) := by
  refine returnsInHanded_of_change (C := Tryz.checked) own started (by kernel_rfl) Tryz.func5
    (ChangeSpec.witness6 (enc := enc) (C := Tryz.checked) false ⟨#[], #[.agg #[.int .i64 0, .int .i64 0, .int .i64 0, .int .i64 0], .agg #[.int .i64 0, .slice none 0 0, .bool false, .int .i64 0, .int .i64 0, .bool false, .int .i64 0], .agg #[.slice none 0 0, .int .i64 0]], []⟩ 8 (by kernel_rfl) (by kernel_rfl) (by kernel_rfl) (by kernel_rfl)) ?_
  intro W base args ds gs before hval0 hW hcnd _
  have hval : ∀ (j : Nat) t v, Tryz.f5.params[j]? = some t → args[j]? = some v → Value.okWide Tryz.prog W .any base t v := hval0
  have hW' := hW
  obtain ⟨p, q, hA0, hV, rfl, hfz, hnd⟩ := hW
  have hA : DataW.TrodAll enc Tryz.prog W 0 (fun _ => true) true Tryz.f5.params.toList args.toList ds p := hA0
  rw [Tryz.params5] at hA hval
  obtain ⟨v0, vs0, d0, ds0, p0, q0, hargs, rfl, rfl, h0, r0⟩ := trodAll_cons hA
  obtain ⟨v1, vs1, d1, ds1, p1, q1, rfl, rfl, rfl, h1, r1⟩ := trodAll_cons r0
  obtain ⟨v2, vs2, d2, ds2, p2, q2, rfl, rfl, rfl, h2, r2⟩ := trodAll_cons r1
  obtain ⟨rfl, rfl, rfl⟩ := trodAll_nil r2
  obtain rfl : args = #[v0, v1, v2] := by cases args; simp_all
  obtain ⟨rfl, rfl⟩ := trodVars_none hV
  have k0 := h0
  have lt0 : ∀ x ∈ p0, x.block < W.heap.size := by obtain ⟨m, hm⟩ := k0; exact DataW.trod_lt m _ _ _ hm
  obtain ⟨a0, rfl, w0⟩ := open_cfg (hval 0 23 v0 rfl rfl) h0
  have k1 := h1
  have lt1 : ∀ x ∈ p1, x.block < W.heap.size := by obtain ⟨m, hm⟩ := k1; exact DataW.trod_lt m _ _ _ hm
  obtain ⟨g1_0, g1_1, g1_2, g1_3, g1_4, g1_5, g1_6, rfl, y1_0, y1_1, y1_2, y1_3, y1_4⟩ := open_lnk (hval 1 30 v1 rfl rfl) h1
  have k2 := h2
  have lt2 : ∀ x ∈ p2, x.block < W.heap.size := by obtain ⟨m, hm⟩ := k2; exact DataW.trod_lt m _ _ _ hm
  obtain ⟨g2_0, g2_1, rfl, y2_0, y2_1⟩ := open_lview (hval 2 48 v2 rfl rfl) h2
  clear hA0 hval0
  refine (walkLinkFrames (w := W) a0 w0 g1_0 g1_1 g1_2 g1_3 g1_4 g1_5 g1_6 y1_0 y1_1 y1_2 y1_3 y1_4 g2_0 g2_1 y2_0 y2_1).mono fun e W' ⟨he, bel⟩ => ?_
  subst he
  exact ⟨_, rfl, _, _, _, [], _, [], hW', trodAll_mk1 (shut_bool Tryz.underlying4 _), (trodAll_cons_mk (Below.trod laidOut (by kernel_rfl) (of_decide_eq_true (by kernel_rfl)) k0 bel lt0) (trodAll_cons_mk (Below.trod laidOut (by kernel_rfl) (of_decide_eq_true (by kernel_rfl)) k1 bel lt1) (trodAll_cons_mk (Below.trod laidOut (by kernel_rfl) (of_decide_eq_true (by kernel_rfl)) k2 bel lt2) trodAll_mk0))), rfl, bel.frame _, fun h => by cases h⟩

theorem over : Rows.linkFramesRow.holds Tryz.pinned (OpenSpec.ofChange Rows.linkFramesSpec) :=
  OpenClaim.holds_of_wide 5 Tryz.f5 rfl rfl rfl rfl rfl rfl rfl ⟨rfl, rfl, rfl, rfl, rfl⟩ rfl rfl rfl rfl rfl (by kernel_rfl) Tryz.func5 (by kernel_rfl)
    (of_decide_eq_true (by kernel_rfl)) (by unfold Func.isWrapper; first | (rw [if_pos (by decide +kernel)]; kernel_rfl) | (rw [if_neg (by decide +kernel)]; exact ⟨rfl, rfl⟩))
    (fun os started H enc _ => lifted os started H enc)

/-- THE STATEMENT. -/
theorem proved : Rows.LinkFramesSaid := over
#print axioms proved
end Go.Proofs.YtndicdomdndjaaaGreat.linkFrames

end
