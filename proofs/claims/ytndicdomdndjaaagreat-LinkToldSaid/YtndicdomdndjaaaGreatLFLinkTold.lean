/-
  THE PROOF OF LinkTold: for every input the law returns true, and each argument reads behind the call as it read before. No condition.
-/
import Derived.Test.YtndicdomdndjaaaGreatL11
import Derived.Test.YtndicdomdndjaaaGreatL02
import Derived.Deep.Cut
import Derived.Test.YtndicdomdndjaaaGreatL04
import Derived.Test.YtndicdomdndjaaaGreatRows
import Derived.ProofKit
import Derived.OpenShut
import Derived.ShutString
import Derived.ChangeOld
import Derived.SliceStrings
import Derived.Lib.SmallJoins

section

/-
  THE WALK OF LinkTold.
-/
namespace Go.Proofs.YtndicdomdndjaaaGreat
open Go.RowKit

theorem rdisum_eqL {w : World} {v : Value} {t : List Row} (hv : Tab w v t) (hs : Short t) {m : Nat} (h : Hid (diSum t = m)) :
    Calls Tryz.prog 32 #[v] w fun e w' => e = .returned (.int .u64 m) ∧ Below w.heap.size w w' := by
  rw [← h.out]
  exact rdisum_any hv hs

theorem quiet_nil {ms md : Int} {mq : List Chg} {ml mn : Bool} {b : Bkt} (h : lnQuiet ⟨ms, ⟨mq, ml⟩, b, mn, md⟩ = true) : mq = [] := by
  unfold lnQuiet quEmpty at h
  simp only [Bool.and_eq_true] at h
  have h2 := h.2
  cases mq with
  | nil => rfl
  | cons a r => simp at h2

set_option maxHeartbeats 12800000 in
set_option maxRecDepth 1000000 in
theorem ltd {w : World} {v vt : Value} {ql : List Chg} {view : List Row} (hv : Chgs w v ql) (ht : Tab w vt view) (ca cb cd ce seq tok at' dg : Int) (la sn : Bool) (now : Int) :
    Calls Tryz.prog 6 #[.agg #[.int .i64 ca, .int .i64 cb, .int .i64 cd, .int .i64 ce], .agg #[.int .i64 seq, v, .bool la, .int .i64 tok, .int .i64 at', .bool sn, .int .i64 dg], .agg #[vt, .int .i64 now]] w fun e w' => e = .returned (.bool true) ∧ Below w.heap.size w w' := by
  obtain ⟨qn, hqn⟩ : ∃ n, ql.length = n := ⟨_, rfl⟩
  obtain ⟨ao, cap, rfl⟩ := chgs_shape hv hqn
  obtain ⟨vn, hvn⟩ : ∃ n, view.length = n := ⟨_, rfl⟩
  obtain ⟨ta, tc, rfl⟩ := tab_shapeL ht hvn
  have HVN := Lib.hid hvn
  obtain ⟨f1, hf1⟩ : ∃ r, fewC ql 30 = r := ⟨_, rfl⟩
  obtain ⟨f2, hf2⟩ : ∃ r, fewT view = r := ⟨_, rfl⟩
  obtain ⟨f3, hf3⟩ : ∃ r, lnMay ⟨ca, cb, cd, ce⟩ ⟨seq, ⟨ql, la⟩, ⟨tok, at'⟩, sn, dg⟩ = r := ⟨_, rfl⟩
  obtain ⟨f4, hf4⟩ : ∃ r, diMay view = r := ⟨_, rfl⟩
  obtain ⟨f5, hf5⟩ : ∃ r, pcTime now = r := ⟨_, rfl⟩
  have F1 := Lib.hid hf1
  have F2 := Lib.hid hf2
  have F3 := Lib.hid hf3
  have F4 := Lib.hid hf4
  have F5 := Lib.hid hf5
  clear hf1 hf2 hf3 hf4 hf5
  have b0 := bl_newZ w (.cells #[.int .i64 ca, .int .i64 cb, .int .i64 cd, .int .i64 ce] 23)
  have b1 := bl_newZ (w.alloc (.cells #[.int .i64 ca, .int .i64 cb, .int .i64 cd, .int .i64 ce] 23)) (.cells #[.int .i64 seq, .slice ao qn cap, .bool la, .int .i64 tok, .int .i64 at', .bool sn, .int .i64 dg] 30)
  have b2 := bl_newZ ((w.alloc (.cells #[.int .i64 ca, .int .i64 cb, .int .i64 cd, .int .i64 ce] 23)).alloc (.cells #[.int .i64 seq, .slice ao qn cap, .bool la, .int .i64 tok, .int .i64 at', .bool sn, .int .i64 dg] 30)) (.cells #[.slice ta vn tc, .int .i64 now] 48)
  have HB := Lib.hid (below2Z (below2Z b0 b1) b2)
  have V := Lib.hid (((hv.later b0).later b1).later b2)
  have T := Lib.hid (((ht.later b0).later b1).later b2)
  have CB := newQ w (.cells #[.int .i64 ca, .int .i64 cb, .int .i64 cd, .int .i64 ce] 23)
  replace CB := upQ CB b1
  replace CB := upQ CB b2
  replace CB := Lib.hid CB
  have LB := newQ (w.alloc (.cells #[.int .i64 ca, .int .i64 cb, .int .i64 cd, .int .i64 ce] 23)) (.cells #[.int .i64 seq, .slice ao qn cap, .bool la, .int .i64 tok, .int .i64 at', .bool sn, .int .i64 dg] 30)
  rw [World.size_alloc] at LB
  replace LB := upQ LB b2
  replace LB := Lib.hid LB
  have WB := newQ ((w.alloc (.cells #[.int .i64 ca, .int .i64 cb, .int .i64 cd, .int .i64 ce] 23)).alloc (.cells #[.int .i64 seq, .slice ao qn cap, .bool la, .int .i64 tok, .int .i64 at', .bool sn, .int .i64 dg] 30)) (.cells #[.slice ta vn tc, .int .i64 now] 48)
  rw [World.size_alloc, World.size_alloc] at WB
  replace WB := Lib.hid WB
  clear b0 b1 b2
  clear hv hqn ht hvn
  go_enter Tryz.func6, Tryz.ntmps6
  go_upto_region 1 with fail
  generalize ((w.alloc (.cells #[.int .i64 ca, .int .i64 cb, .int .i64 cd, .int .i64 ce] 23)).alloc (.cells #[.int .i64 seq, .slice ao qn cap, .bool la, .int .i64 tok, .int .i64 at', .bool sn, .int .i64 dg] 30)).alloc (.cells #[.slice ta vn tc, .int .i64 now] 48) = w4 at CB LB WB V T HB ⊢
  obtain ⟨⟨LBc0, LBc1, LBc2, LBc3, LBc4, LBc5, LBc6⟩, ⟨LBf0, LBf1, LBf2, LBf3, LBf4, LBf5, LBf6⟩⟩ := blk7 LB.out
  go_wp2_with fail
  clear LBc0 LBc1 LBc2 LBc3 LBc4 LBc5 LBc6 LBf0 LBf1 LBf2 LBf3 LBf4 LBf5 LBf6
  refine (rlfew_any V.out la sn seq tok at' dg F1).mono ?_
  rintro e w5 ⟨rfl, b5⟩
  replace CB := Lib.hid (upQ CB.out b5)
  replace LB := Lib.hid (upQ LB.out b5)
  replace WB := Lib.hid (upQ WB.out b5)
  replace V := Lib.hid (V.out.later b5)
  replace T := Lib.hid (T.out.later b5)
  replace HB := Lib.hid (below2Z HB.out b5)
  clear b5
  cases f1 with
  | false =>
    go_wp2_with fail
    refine (live18 _).mono ?_
    rintro e w506 ⟨rfl, b506⟩
    replace HB := Lib.hid (below2Z HB.out b506)
    clear b506
    go_wp2_with fail
    go_ret
    exact ⟨rfl, HB.out⟩
  | true =>
    have HS := Lib.hid (fewC_short F1.out)
    have hql := (fewC_get F1.out).1
    have hq30 : ql.length ≤ 30 := by omega
    have HSC := Lib.hid (fewC_get F1.out).2
    clear hql F1
    obtain ⟨⟨WBc0, WBc1⟩, ⟨WBf0, WBf1⟩⟩ := blk2 WB.out
    go_wp2_with fail
    clear WBc0 WBc1 WBf0 WBf1
    refine (fewt_eqL T.out F2).mono ?_
    rintro e w6 ⟨rfl, b6⟩
    replace CB := Lib.hid (upQ CB.out b6)
    replace LB := Lib.hid (upQ LB.out b6)
    replace WB := Lib.hid (upQ WB.out b6)
    replace V := Lib.hid (V.out.later b6)
    replace T := Lib.hid (T.out.later b6)
    replace HB := Lib.hid (below2Z HB.out b6)
    clear b6
    cases f2 with
    | false =>
      go_wp2_with fail
      refine (live18 _).mono ?_
      rintro e w507 ⟨rfl, b507⟩
      replace HB := Lib.hid (below2Z HB.out b507)
      clear b507
      go_wp2_with fail
      go_ret
      exact ⟨rfl, HB.out⟩
    | true =>
      have HH := Lib.hid (fewT_short F2.out)
      clear F2
      obtain ⟨⟨CBc0, CBc1, CBc2, CBc3⟩, ⟨CBf0, CBf1, CBf2, CBf3⟩⟩ := blk4 CB.out
      obtain ⟨⟨LBc0, LBc1, LBc2, LBc3, LBc4, LBc5, LBc6⟩, ⟨LBf0, LBf1, LBf2, LBf3, LBf4, LBf5, LBf6⟩⟩ := blk7 LB.out
      go_wp2_with fail
      clear CBc0 CBc1 CBc2 CBc3 CBf0 CBf1 CBf2 CBf3 LBc0 LBc1 LBc2 LBc3 LBc4 LBc5 LBc6 LBf0 LBf1 LBf2 LBf3 LBf4 LBf5 LBf6
      refine (rlmay_any V.out HS.out (by omega) la sn seq tok at' dg ca cb cd ce F3).mono ?_
      rintro e w7 ⟨rfl, b7⟩
      replace CB := Lib.hid (upQ CB.out b7)
      replace LB := Lib.hid (upQ LB.out b7)
      replace WB := Lib.hid (upQ WB.out b7)
      replace V := Lib.hid (V.out.later b7)
      replace T := Lib.hid (T.out.later b7)
      replace HB := Lib.hid (below2Z HB.out b7)
      clear b7
      cases f3 with
      | false =>
        go_wp2_with fail
        refine (live18 _).mono ?_
        rintro e w508 ⟨rfl, b508⟩
        replace HB := Lib.hid (below2Z HB.out b508)
        clear b508
        go_wp2_with fail
        go_ret
        exact ⟨rfl, HB.out⟩
      | true =>
        obtain ⟨⟨WBc0, WBc1⟩, ⟨WBf0, WBf1⟩⟩ := blk2 WB.out
        go_wp2_with fail
        clear WBc0 WBc1 WBf0 WBf1
        refine (rdimay_eq T.out HH.out F4).mono ?_
        rintro e w8 ⟨rfl, b8⟩
        replace CB := Lib.hid (upQ CB.out b8)
        replace LB := Lib.hid (upQ LB.out b8)
        replace WB := Lib.hid (upQ WB.out b8)
        replace V := Lib.hid (V.out.later b8)
        replace T := Lib.hid (T.out.later b8)
        replace HB := Lib.hid (below2Z HB.out b8)
        clear b8
        cases f4 with
        | false =>
          go_wp2_with fail
          refine (live18 _).mono ?_
          rintro e w509 ⟨rfl, b509⟩
          replace HB := Lib.hid (below2Z HB.out b509)
          clear b509
          go_wp2_with fail
          go_ret
          exact ⟨rfl, HB.out⟩
        | true =>
          obtain ⟨⟨WBc0, WBc1⟩, ⟨WBf0, WBf1⟩⟩ := blk2 WB.out
          go_wp2_with fail
          clear WBc0 WBc1 WBf0 WBf1
          refine (rptime_eqL now F5 _).mono ?_
          rintro e w9 ⟨rfl, b9⟩
          replace CB := Lib.hid (upQ CB.out b9)
          replace LB := Lib.hid (upQ LB.out b9)
          replace WB := Lib.hid (upQ WB.out b9)
          replace V := Lib.hid (V.out.later b9)
          replace T := Lib.hid (T.out.later b9)
          replace HB := Lib.hid (below2Z HB.out b9)
          clear b9
          cases f5 with
          | false =>
            go_wp2_with fail
            refine (live18 _).mono ?_
            rintro e w510 ⟨rfl, b510⟩
            replace HB := Lib.hid (below2Z HB.out b510)
            clear b510
            go_wp2_with fail
            go_ret
            exact ⟨rfl, HB.out⟩
          | true =>
            have hv32 := (diMay_iff.1 F4.out).1
            obtain ⟨vw, hvw⟩ : ∃ t, setAll view ql = t := ⟨_, rfl⟩
            have HVW := Lib.hid hvw
            have HSV : Hid (Short vw) := Lib.hid (by rw [← hvw]; exact setAll_short HH.out HSC.out)
            obtain ⟨f6, hf6⟩ : ∃ r, diMay vw = r := ⟨_, rfl⟩
            have F6 := Lib.hid hf6
            clear hvw hf6 HSC
            obtain ⟨⟨LBc0, LBc1, LBc2, LBc3, LBc4, LBc5, LBc6⟩, ⟨LBf0, LBf1, LBf2, LBf3, LBf4, LBf5, LBf6⟩⟩ := blk7 LB.out
            obtain ⟨⟨WBc0, WBc1⟩, ⟨WBf0, WBf1⟩⟩ := blk2 WB.out
            go_wp2_with fail
            clear LBc0 LBc1 LBc2 LBc3 LBc4 LBc5 LBc6 LBf0 LBf1 LBf2 LBf3 LBf4 LBf5 LBf6 WBc0 WBc1 WBf0 WBf1
            refine (rquover_any T.out (by omega) V.out (by omega) la).mono ?_
            rintro e w10 ⟨uv, rfl, huv, b10⟩
            replace CB := Lib.hid (upQ CB.out b10)
            replace LB := Lib.hid (upQ LB.out b10)
            replace WB := Lib.hid (upQ WB.out b10)
            replace V := Lib.hid (V.out.later b10)
            replace T := Lib.hid (T.out.later b10)
            replace HB := Lib.hid (below2Z HB.out b10)
            rw [HVW.out] at huv
            obtain ⟨wl, hwl⟩ : ∃ n, vw.length = n := ⟨_, rfl⟩
            obtain ⟨wa, wc2, rfl⟩ := tab_shapeL huv hwl
            have TV := Lib.hid huv
            clear huv hwl
            clear b10
            go_wp2_with fail
            refine (rdimay_eq TV.out HSV.out F6).mono ?_
            rintro e w11 ⟨rfl, b11⟩
            replace CB := Lib.hid (upQ CB.out b11)
            replace LB := Lib.hid (upQ LB.out b11)
            replace WB := Lib.hid (upQ WB.out b11)
            replace V := Lib.hid (V.out.later b11)
            replace T := Lib.hid (T.out.later b11)
            replace TV := Lib.hid (Tab.later TV.out b11)
            replace HB := Lib.hid (below2Z HB.out b11)
            clear b11
            cases f6 with
            | false =>
              go_wp2_with fail
              refine (live18 _).mono ?_
              rintro e w512 ⟨rfl, b512⟩
              replace HB := Lib.hid (below2Z HB.out b512)
              clear b512
              go_wp2_with fail
              go_ret
              exact ⟨rfl, HB.out⟩
            | true =>
              obtain ⟨⟨⟨ms, ⟨mq, ml⟩, ⟨mt, ma⟩, mn, md⟩, fs⟩, hE⟩ : ∃ p, lnEmit ⟨ca, cb, cd, ce⟩ ⟨seq, ⟨ql, la⟩, ⟨tok, at'⟩, sn, dg⟩ vw now = p := ⟨_, rfl⟩
              have HE := Lib.hid hE
              obtain ⟨ta1, ta2, ta3, ta4, ta5⟩ := told_all F3.out F4.out F6.out F5.out HVW.out hE
              have hmq := (lnMay_short ta5).2.1
              simp only at hmq ta3
              have TA1 := Lib.hid ta1
              have TA3 := Lib.hid ta3
              have TA4 := Lib.hid ta4
              clear hE ta1 ta3 ta4 ta5
              obtain ⟨⟨CBc0, CBc1, CBc2, CBc3⟩, ⟨CBf0, CBf1, CBf2, CBf3⟩⟩ := blk4 CB.out
              obtain ⟨⟨LBc0, LBc1, LBc2, LBc3, LBc4, LBc5, LBc6⟩, ⟨LBf0, LBf1, LBf2, LBf3, LBf4, LBf5, LBf6⟩⟩ := blk7 LB.out
              obtain ⟨⟨WBc0, WBc1⟩, ⟨WBf0, WBf1⟩⟩ := blk2 WB.out
              go_wp2_with fail
              clear CBc0 CBc1 CBc2 CBc3 CBf0 CBf1 CBf2 CBf3 LBc0 LBc1 LBc2 LBc3 LBc4 LBc5 LBc6 LBf0 LBf1 LBf2 LBf3 LBf4 LBf5 LBf6 WBc0 WBc1 WBf0 WBf1
              refine (lemit_eq V.out TV.out HS.out (by omega) HSV.out ca cb cd ce seq tok at' dg now la sn HE).mono ?_
              rintro e w12 ⟨uM, fvM, psM, rfl, hM, kM, mM, b12⟩
              replace CB := Lib.hid (upQ CB.out b12)
              replace LB := Lib.hid (upQ LB.out b12)
              replace WB := Lib.hid (upQ WB.out b12)
              replace V := Lib.hid (V.out.later b12)
              replace T := Lib.hid (T.out.later b12)
              replace TV := Lib.hid (Tab.later TV.out b12)
              replace HB := Lib.hid (below2Z HB.out b12)
              obtain ⟨nM, hnM⟩ : ∃ n, mq.length = n := ⟨_, rfl⟩
              obtain ⟨uMa, uMc, rfl⟩ := chgs_shape hM hnM
              obtain ⟨fa, fc, rfl, hFC⟩ := kf_cells kM mM
              have QM := Lib.hid hM
              have HFC := Lib.hid hFC
              clear hM hnM kM mM hFC
              clear b12
              have HBE := Lib.hid (Below.refl w12.heap.size w12)
              clear CB
              clear LB
              clear V
              have b13 := bl_newZ w12 (.cells #[.int .i64 ms, .slice uMa nM uMc, .bool ml, .int .i64 mt, .int .i64 ma, .bool mn, .int .i64 md] 30)
              have L8 := newQ w12 (.cells #[.int .i64 ms, .slice uMa nM uMc, .bool ml, .int .i64 mt, .int .i64 ma, .bool mn, .int .i64 md] 30)
              have hL8 : w.heap.size ≤ w12.heap.size := HB.out.size
              replace WB := Lib.hid (upQ WB.out b13)
              replace T := Lib.hid (T.out.later b13)
              replace TV := Lib.hid (Tab.later TV.out b13)
              replace QM := Lib.hid (Chgs.later QM.out b13)
              replace HBE := Lib.hid (below2Z HBE.out b13)
              replace HB := Lib.hid (below2Z HB.out b13)
              clear b13
              replace L8 := Lib.hid L8
              go_upto_region 7 with fail
              generalize w12.alloc (.cells #[.int .i64 ms, .slice uMa nM uMc, .bool ml, .int .i64 mt, .int .i64 ma, .bool mn, .int .i64 md] 30) = w14 at WB L8 T TV QM HBE HB ⊢
              obtain ⟨⟨WBc0, WBc1⟩, ⟨WBf0, WBf1⟩⟩ := blk2 WB.out
              go_wp2_with fail
              clear WBc0 WBc1 WBf0 WBf1
              clear WB
              clear HE HSV HS HH
              go_loopw [10, 11] (fun h i wr => ∃ j : Nat, j ≤ fs.length ∧ i = .int .i64 j ∧ Hid (Tab wr h ((fs.take j).foldl lnHas view)) ∧ Hid (Below w14.heap.size w14 wr)) (fun _ i _ => fs.length - (intOf i).toNat)
              case atStart => exact ⟨0, by omega, rfl, T, Lib.hid (Below.refl _ _)⟩
              case round =>
                obtain ⟨j, hj, rfl, HT, HN⟩ := hrel
                have hlen := has_short F4.out (fun i hi => ⟨(TA1.out i hi).1, (TA1.out i hi).2.1⟩) hj ta2
                have HLEN := Lib.hid hlen
                clear hlen
                by_cases hlt : j < fs.length
                case pos =>
                  obtain ⟨g, pa, pc, rfl, hc, ht⟩ := HFC.out j hlt
                  have hA := TA1.out j hlt
                  have hnx := has_next (has := view) hlt
                  have hc2 := CellsAt.later (CellsAt.later hc HBE.out) HN.out
                  have ht2 := Tab.later (Tab.later ht HBE.out) HN.out
                  clear hc ht
                  generalize hfx : fs.getD j Frm.zero = f at hA hnx hc2 ht2
                  clear hfx
                  generalize hhx : (fs.take j).foldl lnHas view = hs at hA hnx HT HLEN
                  clear hhx
                  obtain ⟨fk, fsq, fon, fcn, ⟨fsh, fpr, fsi, fst⟩, fsum, ft⟩ := f
                  have HNX := Lib.hid hnx
                  clear hnx
                  rcases frMay_ways hA.1 hA.2.1 with ⟨e1, e2, e3, -⟩ | ⟨e1, e2, e3, e4, e5⟩ | ⟨e1, e2, e3, e4, e5, -⟩
                  · simp only at e1 e2 e3
                    subst e1 e2 e3
                    clear hA
                    have fc0 : wr.cell? ⟨g, j * 10, none⟩ = some (.int .i64 1) := hc2 0 _ rfl
                    have fc2 : wr.cell? ⟨g, j * 10 + 2, none⟩ = some (.bool fon) := hc2 2 _ rfl
                    have fc3 : wr.cell? ⟨g, j * 10 + 3, none⟩ = some (.string ⟨fcn.toArray⟩) := hc2 3 _ rfl
                    have fc4 : wr.cell? ⟨g, j * 10 + 4, none⟩ = some (.int .i64 fsh) := hc2 4 _ rfl
                    have fc5 : wr.cell? ⟨g, j * 10 + 5, none⟩ = some (.int .i64 fpr) := hc2 5 _ rfl
                    have fc6 : wr.cell? ⟨g, j * 10 + 6, none⟩ = some (.int .i64 fsi) := hc2 6 _ rfl
                    have fc7 : wr.cell? ⟨g, j * 10 + 7, none⟩ = some (.string ⟨fst.toArray⟩) := hc2 7 _ rfl
                    clear hc2
                    go_upto_region 16 with fail
                    obtain ⟨BS, hBS⟩ : ∃ BS : List (Nat × List Value), BS = [] := ⟨_, rfl⟩
                    obtain ⟨CS, hCS⟩ : ∃ CS : List (Nat × Nat × Value), CS = [(g, j * 10, .int .i64 1), (g, j * 10 + 2, .bool fon), (g, j * 10 + 3, .string ⟨fcn.toArray⟩), (g, j * 10 + 4, .int .i64 fsh), (g, j * 10 + 5, .int .i64 fpr), (g, j * 10 + 6, .int .i64 fsi), (g, j * 10 + 7, .string ⟨fst.toArray⟩)] := ⟨_, rfl⟩
                    have D0 := Lib.hid (show heldC wr CS from by rw [hCS]; exact heldC_cons (fc0) (heldC_cons (fc2) (heldC_cons (fc3) (heldC_cons (fc4) (heldC_cons (fc5) (heldC_cons (fc6) (heldC_cons (fc7) (heldC_nil _))))))))
                    have hq0 : ∀ X, heldC X CS → X.cell? ⟨g, j * 10, none⟩ = some (.int .i64 1) := fun X hx => heldC_get hx (by rw [hCS]; simp)
                    have hq1 : ∀ X, heldC X CS → X.cell? ⟨g, j * 10 + 2, none⟩ = some (.bool fon) := fun X hx => heldC_get hx (by rw [hCS]; simp)
                    have hq2 : ∀ X, heldC X CS → X.cell? ⟨g, j * 10 + 3, none⟩ = some (.string ⟨fcn.toArray⟩) := fun X hx => heldC_get hx (by rw [hCS]; simp)
                    have hq3 : ∀ X, heldC X CS → X.cell? ⟨g, j * 10 + 4, none⟩ = some (.int .i64 fsh) := fun X hx => heldC_get hx (by rw [hCS]; simp)
                    have hq4 : ∀ X, heldC X CS → X.cell? ⟨g, j * 10 + 5, none⟩ = some (.int .i64 fpr) := fun X hx => heldC_get hx (by rw [hCS]; simp)
                    have hq5 : ∀ X, heldC X CS → X.cell? ⟨g, j * 10 + 6, none⟩ = some (.int .i64 fsi) := fun X hx => heldC_get hx (by rw [hCS]; simp)
                    have hq6 : ∀ X, heldC X CS → X.cell? ⟨g, j * 10 + 7, none⟩ = some (.string ⟨fst.toArray⟩) := fun X hx => heldC_get hx (by rw [hCS]; simp)
                    clear hCS
                    clear hBS
                    have K0 : Hid (Below wr.heap.size wr wr.drew) := Lib.hid (Below.refl _ _).drew
                    refine wp_region_held_drew (S := (fun X => heldC X CS)) (by kernel_rfl) ?_ (fun hHeld => ?_)
                    · exact heldC_up K0.out D0.out
                    generalize wr.drew = z0 at K0 hHeld ⊢
                    refine wpAnyH_take (i := 0) (oi := { dst := some 80, op := Op.move (Operand.tmp 10), type := 46, pos := "law.go:94", after := #[], guard := none }) (v := ?_) rfl (by as_aux_lemma => kernel_rfl) (by as_aux_lemma => kernel_rfl) (by as_aux_lemma => kernel_rfl) (fun _ _ _ h => h) (Or.inl ⟨by rfl, ?_⟩) (by assumption) ?_
                    rotate_left
                    · intro w' hSw
                      try dsimp only at hSw
                      go_simp
                      try with_reducible rfl
                    try simp only [Act.put, List.setIfInBounds_toArray, List.set_cons_zero, List.set_cons_succ]
                    refine wpAnyH_take (i := 1) (oi := { dst := some 81, op := Op.move (Operand.tmp 9), type := 50, pos := "law.go:94", after := #[], guard := none }) (v := ?_) rfl (by as_aux_lemma => kernel_rfl) (by as_aux_lemma => kernel_rfl) (by as_aux_lemma => kernel_rfl) (fun _ _ _ h => h) (Or.inl ⟨by rfl, ?_⟩) (by assumption) ?_
                    rotate_left
                    · intro w' hSw
                      try dsimp only at hSw
                      go_simp
                      try with_reducible rfl
                    try simp only [Act.put, List.setIfInBounds_toArray, List.set_cons_zero, List.set_cons_succ]
                    refine wpAnyH_take (i := 2) (oi := { dst := some 82, op := Op.move (Operand.tmp 11), type := 3, pos := "law.go:94", after := #[], guard := none }) (v := ?_) rfl (by as_aux_lemma => kernel_rfl) (by as_aux_lemma => kernel_rfl) (by as_aux_lemma => kernel_rfl) (fun _ _ _ h => h) (Or.inl ⟨by rfl, ?_⟩) (by assumption) ?_
                    rotate_left
                    · intro w' hSw
                      try dsimp only at hSw
                      go_simp
                      try with_reducible rfl
                    try simp only [Act.put, List.setIfInBounds_toArray, List.set_cons_zero, List.set_cons_succ]
                    refine wpAnyH_take (i := 3) (oi := { dst := some 83, op := Op.indexAddr 50 (Operand.tmp 81) (Operand.tmp 82), type := 0, pos := "law.go:94", after := #[{ on := 1, ground := Ground.data }, { on := 2, ground := Ground.data }], guard := none }) (v := ?_) rfl (by as_aux_lemma => kernel_rfl) (by as_aux_lemma => kernel_rfl) (by as_aux_lemma => kernel_rfl) (fun _ _ _ h => h) (Or.inl ⟨by rfl, ?_⟩) (by assumption) ?_
                    rotate_left
                    · intro w' hSw
                      try dsimp only at hSw
                      go_simp
                      try with_reducible rfl
                    try simp only [Act.put, List.setIfInBounds_toArray, List.set_cons_zero, List.set_cons_succ]
                    refine wpAnyH_take (i := 4) (oi := { dst := some 84, op := Op.fieldAddr 60 (Operand.tmp 83) 3, type := 0, pos := "law.go:94", after := #[{ on := 3, ground := Ground.data }], guard := none }) (v := ?_) rfl (by as_aux_lemma => kernel_rfl) (by as_aux_lemma => kernel_rfl) (by as_aux_lemma => kernel_rfl) (fun _ _ _ h => h) (Or.inl ⟨by rfl, ?_⟩) (by assumption) ?_
                    rotate_left
                    · intro w' hSw
                      try dsimp only at hSw
                      go_simp
                      try with_reducible rfl
                    try simp only [Act.put, List.setIfInBounds_toArray, List.set_cons_zero, List.set_cons_succ]
                    refine wpAnyH_take (i := 5) (oi := { dst := some 85, op := Op.load 9 (Operand.tmp 84), type := 9, pos := "law.go:94", after := #[{ on := 4, ground := Ground.data }], guard := none }) (v := ?_) rfl (by as_aux_lemma => kernel_rfl) (by as_aux_lemma => kernel_rfl) (by as_aux_lemma => kernel_rfl) (fun _ _ _ h => h) (Or.inl ⟨by rfl, ?_⟩) (by assumption) ?_
                    rotate_left
                    · intro w' hSw
                      try dsimp only at hSw
                      go_simp
                      try with_reducible rfl
                    try simp only [Act.put, List.setIfInBounds_toArray, List.set_cons_zero, List.set_cons_succ]
                    refine wpAnyH_take (i := 6) (oi := { dst := some 86, op := Op.move (Operand.tmp 9), type := 50, pos := "law.go:94", after := #[], guard := none }) (v := ?_) rfl (by as_aux_lemma => kernel_rfl) (by as_aux_lemma => kernel_rfl) (by as_aux_lemma => kernel_rfl) (fun _ _ _ h => h) (Or.inl ⟨by rfl, ?_⟩) (by assumption) ?_
                    rotate_left
                    · intro w' hSw
                      try dsimp only at hSw
                      go_simp
                      try with_reducible rfl
                    try simp only [Act.put, List.setIfInBounds_toArray, List.set_cons_zero, List.set_cons_succ]
                    refine wpAnyH_take (i := 7) (oi := { dst := some 87, op := Op.move (Operand.tmp 11), type := 3, pos := "law.go:94", after := #[], guard := none }) (v := ?_) rfl (by as_aux_lemma => kernel_rfl) (by as_aux_lemma => kernel_rfl) (by as_aux_lemma => kernel_rfl) (fun _ _ _ h => h) (Or.inl ⟨by rfl, ?_⟩) (by assumption) ?_
                    rotate_left
                    · intro w' hSw
                      try dsimp only at hSw
                      go_simp
                      try with_reducible rfl
                    try simp only [Act.put, List.setIfInBounds_toArray, List.set_cons_zero, List.set_cons_succ]
                    refine wpAnyH_take (i := 8) (oi := { dst := some 88, op := Op.indexAddr 50 (Operand.tmp 86) (Operand.tmp 87), type := 0, pos := "law.go:94", after := #[{ on := 6, ground := Ground.data }, { on := 7, ground := Ground.data }], guard := none }) (v := ?_) rfl (by as_aux_lemma => kernel_rfl) (by as_aux_lemma => kernel_rfl) (by as_aux_lemma => kernel_rfl) (fun _ _ _ h => h) (Or.inl ⟨by rfl, ?_⟩) (by assumption) ?_
                    rotate_left
                    · intro w' hSw
                      try dsimp only at hSw
                      go_simp
                      try with_reducible rfl
                    try simp only [Act.put, List.setIfInBounds_toArray, List.set_cons_zero, List.set_cons_succ]
                    refine wpAnyH_take (i := 9) (oi := { dst := some 89, op := Op.fieldAddr 60 (Operand.tmp 88) 2, type := 0, pos := "law.go:94", after := #[{ on := 8, ground := Ground.data }], guard := none }) (v := ?_) rfl (by as_aux_lemma => kernel_rfl) (by as_aux_lemma => kernel_rfl) (by as_aux_lemma => kernel_rfl) (fun _ _ _ h => h) (Or.inl ⟨by rfl, ?_⟩) (by assumption) ?_
                    rotate_left
                    · intro w' hSw
                      try dsimp only at hSw
                      go_simp
                      try with_reducible rfl
                    try simp only [Act.put, List.setIfInBounds_toArray, List.set_cons_zero, List.set_cons_succ]
                    refine wpAnyH_take (i := 10) (oi := { dst := some 90, op := Op.load 4 (Operand.tmp 89), type := 4, pos := "law.go:94", after := #[{ on := 9, ground := Ground.data }], guard := none }) (v := ?_) rfl (by as_aux_lemma => kernel_rfl) (by as_aux_lemma => kernel_rfl) (by as_aux_lemma => kernel_rfl) (fun _ _ _ h => h) (Or.inl ⟨by rfl, ?_⟩) (by assumption) ?_
                    rotate_left
                    · intro w' hSw
                      try dsimp only at hSw
                      go_simp
                      try with_reducible rfl
                    try simp only [Act.put, List.setIfInBounds_toArray, List.set_cons_zero, List.set_cons_succ]
                    refine wpAnyH_take (i := 11) (oi := { dst := some 91, op := Op.move (Operand.tmp 9), type := 50, pos := "law.go:94", after := #[], guard := none }) (v := ?_) rfl (by as_aux_lemma => kernel_rfl) (by as_aux_lemma => kernel_rfl) (by as_aux_lemma => kernel_rfl) (fun _ _ _ h => h) (Or.inl ⟨by rfl, ?_⟩) (by assumption) ?_
                    rotate_left
                    · intro w' hSw
                      try dsimp only at hSw
                      go_simp
                      try with_reducible rfl
                    try simp only [Act.put, List.setIfInBounds_toArray, List.set_cons_zero, List.set_cons_succ]
                    refine wpAnyH_take (i := 12) (oi := { dst := some 92, op := Op.move (Operand.tmp 11), type := 3, pos := "law.go:94", after := #[], guard := none }) (v := ?_) rfl (by as_aux_lemma => kernel_rfl) (by as_aux_lemma => kernel_rfl) (by as_aux_lemma => kernel_rfl) (fun _ _ _ h => h) (Or.inl ⟨by rfl, ?_⟩) (by assumption) ?_
                    rotate_left
                    · intro w' hSw
                      try dsimp only at hSw
                      go_simp
                      try with_reducible rfl
                    try simp only [Act.put, List.setIfInBounds_toArray, List.set_cons_zero, List.set_cons_succ]
                    refine wpAnyH_take (i := 13) (oi := { dst := some 93, op := Op.indexAddr 50 (Operand.tmp 91) (Operand.tmp 92), type := 0, pos := "law.go:94", after := #[{ on := 11, ground := Ground.data }, { on := 12, ground := Ground.data }], guard := none }) (v := ?_) rfl (by as_aux_lemma => kernel_rfl) (by as_aux_lemma => kernel_rfl) (by as_aux_lemma => kernel_rfl) (fun _ _ _ h => h) (Or.inl ⟨by rfl, ?_⟩) (by assumption) ?_
                    rotate_left
                    · intro w' hSw
                      try dsimp only at hSw
                      go_simp
                      try with_reducible rfl
                    try simp only [Act.put, List.setIfInBounds_toArray, List.set_cons_zero, List.set_cons_succ]
                    refine wpAnyH_take (i := 14) (oi := { dst := some 94, op := Op.fieldAddr 60 (Operand.tmp 93) 4, type := 0, pos := "law.go:94", after := #[{ on := 13, ground := Ground.data }], guard := none }) (v := ?_) rfl (by as_aux_lemma => kernel_rfl) (by as_aux_lemma => kernel_rfl) (by as_aux_lemma => kernel_rfl) (fun _ _ _ h => h) (Or.inl ⟨by rfl, ?_⟩) (by assumption) ?_
                    rotate_left
                    · intro w' hSw
                      try dsimp only at hSw
                      go_simp
                      try with_reducible rfl
                    try simp only [Act.put, List.setIfInBounds_toArray, List.set_cons_zero, List.set_cons_succ]
                    refine wpAnyH_take (i := 15) (oi := { dst := some 95, op := Op.load 32 (Operand.tmp 94), type := 32, pos := "law.go:94", after := #[{ on := 14, ground := Ground.data }], guard := none }) (v := ?_) rfl (by as_aux_lemma => kernel_rfl) (by as_aux_lemma => kernel_rfl) (by as_aux_lemma => kernel_rfl) (fun _ _ _ h => h) (Or.inl ⟨by rfl, ?_⟩) (by assumption) ?_
                    rotate_left
                    · intro w' hSw
                      try dsimp only at hSw
                      go_simp
                      try with_reducible rfl
                    try simp only [Act.put, List.setIfInBounds_toArray, List.set_cons_zero, List.set_cons_succ]
                    refine wpAnyH_take (i := 16) (oi := { dst := some 96, op := Op.build 34 #[(0, Operand.tmp 85), (1, Operand.tmp 90), (2, Operand.tmp 95)], type := 34, pos := "law.go:94", after := #[{ on := 5, ground := Ground.data }, { on := 10, ground := Ground.data }, { on := 15, ground := Ground.data }], guard := none }) (v := ?_) rfl (by as_aux_lemma => kernel_rfl) (by as_aux_lemma => kernel_rfl) (by as_aux_lemma => kernel_rfl) (fun _ _ _ h => h) (Or.inl ⟨by rfl, ?_⟩) (by assumption) ?_
                    rotate_left
                    · intro w' hSw
                      try dsimp only at hSw
                      go_simp
                      try with_reducible rfl
                    try simp only [Act.put, List.setIfInBounds_toArray, List.set_cons_zero, List.set_cons_succ]
                    refine wpAnyH_ready (rs := [17]) (by as_aux_lemma => kernel_rfl) (by simp) ?_
                    refine AllReadyH.cons (o := { dst := some 97, op := Op.call { callee := Callee.value (Operand.func 31), args := #[Operand.tmp 80, Operand.tmp 96], argTypes := #[46, 34] }, type := 46, pos := "law.go:94", after := #[{ on := 0, ground := Ground.data }, { on := 16, ground := Ground.data }], guard := none }) rfl (fun Kx hK => ?_) AllReadyH.nil
                    go_simp
                    refine (rset_eqL (HT.out.later K0.out) HLEN.out.2 fcn fst fon fsh fpr fsi).mono ?_
                    rintro e z16001 ⟨un, rfl, hUN, bz16001⟩
                    have K16001 := Lib.hid (below2Z K0.out bz16001)
                    have D16001 := Lib.hid (heldC_up K16001.out D0.out)
                    have UN := Lib.hid hUN
                    clear hUN
                    clear bz16001
                    go_wp2_with fail
                    refine hK.out _ _ ?_ (fun hHeld2 => ?_)
                    · exact D16001.out
                    clear hK Kx hHeld
                    have hHeld := hHeld2
                    clear hHeld2
                    try simp only [Act.put, List.setIfInBounds_toArray, List.set_cons_zero, List.set_cons_succ]
                    refine wpAnyH_take (i := 18) (oi := { dst := some 10, op := Op.assign (Operand.tmp 97), type := 46, pos := "law.go:94", after := #[{ on := 17, ground := Ground.data }, { on := 17, ground := Ground.chain }, { on := 0, ground := Ground.phase }, { on := 1, ground := Ground.phase }, { on := 2, ground := Ground.phase }, { on := 3, ground := Ground.phase }, { on := 4, ground := Ground.phase }, { on := 5, ground := Ground.phase }, { on := 6, ground := Ground.phase }, { on := 7, ground := Ground.phase }, { on := 8, ground := Ground.phase }, { on := 9, ground := Ground.phase }, { on := 10, ground := Ground.phase }, { on := 11, ground := Ground.phase }, { on := 12, ground := Ground.phase }, { on := 13, ground := Ground.phase }, { on := 14, ground := Ground.phase }, { on := 15, ground := Ground.phase }, { on := 16, ground := Ground.phase }, { on := 17, ground := Ground.phase }], guard := none }) (v := ?_) rfl (by as_aux_lemma => kernel_rfl) (by as_aux_lemma => kernel_rfl) (by as_aux_lemma => kernel_rfl) (fun _ _ _ h => h) (Or.inl ⟨by rfl, ?_⟩) (by assumption) ?_
                    rotate_left
                    · intro w' hSw
                      try dsimp only at hSw
                      go_simp
                      try with_reducible rfl
                    try simp only [Act.put, List.setIfInBounds_toArray, List.set_cons_zero, List.set_cons_succ]
                    refine wpAnyH_done (by kernel_rfl) ?_ _
                    have HN2 := Lib.hid (below2Z HN.out (K16001.out))
                    go_wp2_with fail
                    go_roundw
                    case rel => exact ⟨j + 1, by omega, by go_num, Lib.hid (by rw [HNX.out]; exact UN.out), HN2⟩
                    case measure => simp [intOf]; omega
                  · simp only at e1 e2 e3 e5
                    cases e4
                    subst e1 e2 e3 e5
                    have hsm := hA.2.2 rfl
                    simp only at hsm
                    clear hA
                    have HSM := Lib.hid hsm.symm
                    clear hsm
                    have fc0 : wr.cell? ⟨g, j * 10, none⟩ = some (.int .i64 2) := hc2 0 _ rfl
                    have fc8 : wr.cell? ⟨g, j * 10 + 8, none⟩ = some (.int .u64 fsum) := hc2 8 _ rfl
                    clear hc2
                    go_upto_region 18 with fail
                    obtain ⟨BS, hBS⟩ : ∃ BS : List (Nat × List Value), BS = [] := ⟨_, rfl⟩
                    obtain ⟨CS, hCS⟩ : ∃ CS : List (Nat × Nat × Value), CS = [(g, j * 10, .int .i64 2), (g, j * 10 + 8, .int .u64 fsum)] := ⟨_, rfl⟩
                    have D0 := Lib.hid (show heldC wr CS from by rw [hCS]; exact heldC_cons (fc0) (heldC_cons (fc8) (heldC_nil _)))
                    have hq0 : ∀ X, heldC X CS → X.cell? ⟨g, j * 10, none⟩ = some (.int .i64 2) := fun X hx => heldC_get hx (by rw [hCS]; simp)
                    have hq1 : ∀ X, heldC X CS → X.cell? ⟨g, j * 10 + 8, none⟩ = some (.int .u64 fsum) := fun X hx => heldC_get hx (by rw [hCS]; simp)
                    clear hCS
                    clear hBS
                    have K0 : Hid (Below wr.heap.size wr wr.drew) := Lib.hid (Below.refl _ _).drew
                    refine wp_region_held_drew (S := (fun X => heldC X CS)) (by kernel_rfl) ?_ (fun hHeld => ?_)
                    · exact heldC_up K0.out D0.out
                    generalize wr.drew = z0 at K0 hHeld ⊢
                    refine wpAnyH_take (i := 0) (oi := { dst := some 100, op := Op.move (Operand.tmp 9), type := 50, pos := "law.go:96", after := #[], guard := none }) (v := ?_) rfl (by as_aux_lemma => kernel_rfl) (by as_aux_lemma => kernel_rfl) (by as_aux_lemma => kernel_rfl) (fun _ _ _ h => h) (Or.inl ⟨by rfl, ?_⟩) (by assumption) ?_
                    rotate_left
                    · intro w' hSw
                      try dsimp only at hSw
                      go_simp
                      try with_reducible rfl
                    try simp only [Act.put, List.setIfInBounds_toArray, List.set_cons_zero, List.set_cons_succ]
                    refine wpAnyH_take (i := 1) (oi := { dst := some 101, op := Op.move (Operand.tmp 11), type := 3, pos := "law.go:96", after := #[], guard := none }) (v := ?_) rfl (by as_aux_lemma => kernel_rfl) (by as_aux_lemma => kernel_rfl) (by as_aux_lemma => kernel_rfl) (fun _ _ _ h => h) (Or.inl ⟨by rfl, ?_⟩) (by assumption) ?_
                    rotate_left
                    · intro w' hSw
                      try dsimp only at hSw
                      go_simp
                      try with_reducible rfl
                    try simp only [Act.put, List.setIfInBounds_toArray, List.set_cons_zero, List.set_cons_succ]
                    refine wpAnyH_take (i := 2) (oi := { dst := some 102, op := Op.indexAddr 50 (Operand.tmp 100) (Operand.tmp 101), type := 0, pos := "law.go:96", after := #[{ on := 0, ground := Ground.data }, { on := 1, ground := Ground.data }], guard := none }) (v := ?_) rfl (by as_aux_lemma => kernel_rfl) (by as_aux_lemma => kernel_rfl) (by as_aux_lemma => kernel_rfl) (fun _ _ _ h => h) (Or.inl ⟨by rfl, ?_⟩) (by assumption) ?_
                    rotate_left
                    · intro w' hSw
                      try dsimp only at hSw
                      go_simp
                      try with_reducible rfl
                    try simp only [Act.put, List.setIfInBounds_toArray, List.set_cons_zero, List.set_cons_succ]
                    refine wpAnyH_take (i := 3) (oi := { dst := some 103, op := Op.fieldAddr 60 (Operand.tmp 102) 5, type := 0, pos := "law.go:96", after := #[{ on := 2, ground := Ground.data }], guard := none }) (v := ?_) rfl (by as_aux_lemma => kernel_rfl) (by as_aux_lemma => kernel_rfl) (by as_aux_lemma => kernel_rfl) (fun _ _ _ h => h) (Or.inl ⟨by rfl, ?_⟩) (by assumption) ?_
                    rotate_left
                    · intro w' hSw
                      try dsimp only at hSw
                      go_simp
                      try with_reducible rfl
                    try simp only [Act.put, List.setIfInBounds_toArray, List.set_cons_zero, List.set_cons_succ]
                    refine wpAnyH_take (i := 4) (oi := { dst := some 104, op := Op.load 58 (Operand.tmp 103), type := 58, pos := "law.go:96", after := #[{ on := 3, ground := Ground.data }], guard := none }) (v := ?_) rfl (by as_aux_lemma => kernel_rfl) (by as_aux_lemma => kernel_rfl) (by as_aux_lemma => kernel_rfl) (fun _ _ _ h => h) (Or.inl ⟨by rfl, ?_⟩) (by assumption) ?_
                    rotate_left
                    · intro w' hSw
                      try dsimp only at hSw
                      go_simp
                      try with_reducible rfl
                    try simp only [Act.put, List.setIfInBounds_toArray, List.set_cons_zero, List.set_cons_succ]
                    refine wpAnyH_take (i := 5) (oi := { dst := some 105, op := Op.move (Operand.tmp 10), type := 46, pos := "law.go:96", after := #[], guard := none }) (v := ?_) rfl (by as_aux_lemma => kernel_rfl) (by as_aux_lemma => kernel_rfl) (by as_aux_lemma => kernel_rfl) (fun _ _ _ h => h) (Or.inl ⟨by rfl, ?_⟩) (by assumption) ?_
                    rotate_left
                    · intro w' hSw
                      try dsimp only at hSw
                      go_simp
                      try with_reducible rfl
                    try simp only [Act.put, List.setIfInBounds_toArray, List.set_cons_zero, List.set_cons_succ]
                    refine wpAnyH_ready (rs := [6]) (by as_aux_lemma => kernel_rfl) (by simp) ?_
                    refine AllReadyH.cons (o := { dst := some 106, op := Op.call { callee := Callee.value (Operand.func 32), args := #[Operand.tmp 105], argTypes := #[46] }, type := 58, pos := "law.go:96", after := #[{ on := 5, ground := Ground.data }], guard := none }) rfl (fun Kx hK => ?_) AllReadyH.nil
                    go_simp
                    refine (rdisum_eqL (HT.out.later K0.out) HLEN.out.1 HSM).mono ?_
                    rintro e z18001 ⟨rfl, bz18001⟩
                    have K18001 := Lib.hid (below2Z K0.out bz18001)
                    have D18001 := Lib.hid (heldC_up K18001.out D0.out)
                    clear bz18001
                    go_wp2_with fail
                    refine hK.out _ _ ?_ (fun hHeld2 => ?_)
                    · exact D18001.out
                    clear hK Kx hHeld
                    have hHeld := hHeld2
                    clear hHeld2
                    try simp only [Act.put, List.setIfInBounds_toArray, List.set_cons_zero, List.set_cons_succ]
                    refine wpAnyH_take (i := 7) (oi := { dst := some 107, op := Op.binOp BinOp.neq 58 (Operand.tmp 104) (Operand.tmp 106) 58, type := 4, pos := "law.go:96", after := #[{ on := 4, ground := Ground.data }, { on := 6, ground := Ground.data }], guard := none }) (v := ?_) rfl (by as_aux_lemma => kernel_rfl) (by as_aux_lemma => kernel_rfl) (by as_aux_lemma => kernel_rfl) (fun _ _ _ h => h) (Or.inl ⟨by rfl, ?_⟩) (by assumption) ?_
                    rotate_left
                    · intro w' hSw
                      try dsimp only at hSw
                      go_simp
                      try with_reducible rfl
                    try simp only [Act.put, List.setIfInBounds_toArray, List.set_cons_zero, List.set_cons_succ]
                    refine wpAnyH_done (by kernel_rfl) ?_ _
                    have HN2 := Lib.hid (below2Z HN.out (K18001.out))
                    have HT2 := Lib.hid (HT.out.later (K18001.out))
                    go_wp2_with fail
                    go_roundw
                    case rel => exact ⟨j + 1, by omega, by go_num, Lib.hid (by rw [HNX.out]; exact HT2.out), HN2⟩
                    case measure => simp [intOf]; omega
                  · simp only at e1 e2 e3 e5
                    cases e4
                    subst e1 e2 e3 e5
                    clear hA
                    have fc0 : wr.cell? ⟨g, j * 10, none⟩ = some (.int .i64 3) := hc2 0 _ rfl
                    have fc9 : wr.cell? ⟨g, j * 10 + 9, none⟩ = some (.slice pa ft.length pc) := hc2 9 _ rfl
                    have TN := Lib.hid ht2
                    obtain ⟨fl, hfl⟩ : ∃ n, ft.length = n := ⟨_, rfl⟩
                    simp only at TN
                    rw [hfl] at fc9 TN
                    clear hc2 ht2 hfl
                    go_wp2_with fail
                    go_roundw
                    case rel => exact ⟨j + 1, by omega, by go_num, Lib.hid (by rw [HNX.out]; exact TN.out), HN⟩
                    case measure => simp [intOf]; omega
                have hjn : j = fs.length := by omega
                have HT2 := HT.out
                have hl2 := HLEN.out.1
                rw [hjn, setAll_all] at HT2 hl2
                replace HT := Lib.hid HT2
                clear HLEN HT2 hl2
                generalize hhx : fs.foldl lnHas view = hs at HT TA3 TA4
                clear hhx
                have hs60 := TA4.out
                have HTL := Lib.hid TA3.out
                replace L8 := Lib.hid (upQ L8.out HN.out)
                replace TV := Lib.hid (Tab.later TV.out HN.out)
                replace QM := Lib.hid (Chgs.later QM.out HN.out)
                replace HB := Lib.hid (below2Z HB.out HN.out)
                obtain ⟨q1, hq1⟩ : ∃ r, lnQuiet ⟨ms, ⟨mq, ml⟩, ⟨mt, ma⟩, mn, md⟩ = r := ⟨_, rfl⟩
                have Q1 := Lib.hid hq1
                clear hq1
                obtain ⟨⟨L8c0, L8c1, L8c2, L8c3, L8c4, L8c5, L8c6⟩, ⟨L8f0, L8f1, L8f2, L8f3, L8f4, L8f5, L8f6⟩⟩ := blk7 L8.out
                go_wp2_with fail
                clear L8c0 L8c1 L8c2 L8c3 L8c4 L8c5 L8c6 L8f0 L8f1 L8f2 L8f3 L8f4 L8f5 L8f6
                refine (rquover_any HT.out (by omega) QM.out (by omega) ml).mono ?_
                rintro e w971 ⟨u2, rfl, hu2, b971⟩
                replace L8 := Lib.hid (upQ L8.out b971)
                replace TV := Lib.hid (Tab.later TV.out b971)
                replace QM := Lib.hid (Chgs.later QM.out b971)
                replace HT := Lib.hid (Tab.later HT.out b971)
                replace HB := Lib.hid (below2Z HB.out b971)
                rw [TA3.out] at hu2
                have U2 := Lib.hid hu2
                clear hu2
                clear b971
                go_wp2_with fail
                refine (tsame_eq U2.out TV.out (Lib.hid (tSame_iff.2 rfl))).mono ?_
                rintro e w972 ⟨rfl, b972⟩
                replace L8 := Lib.hid (upQ L8.out b972)
                replace TV := Lib.hid (Tab.later TV.out b972)
                replace QM := Lib.hid (Chgs.later QM.out b972)
                replace HT := Lib.hid (Tab.later HT.out b972)
                replace U2 := Lib.hid (Tab.later U2.out b972)
                replace HB := Lib.hid (below2Z HB.out b972)
                clear b972
                obtain ⟨⟨L8c0, L8c1, L8c2, L8c3, L8c4, L8c5, L8c6⟩, ⟨L8f0, L8f1, L8f2, L8f3, L8f4, L8f5, L8f6⟩⟩ := blk7 L8.out
                go_wp2_with fail
                clear L8c0 L8c1 L8c2 L8c3 L8c4 L8c5 L8c6 L8f0 L8f1 L8f2 L8f3 L8f4 L8f5 L8f6
                refine (lquiet_any QM.out ml mn ms mt ma md Q1).mono ?_
                rintro e w973 ⟨rfl, b973⟩
                replace L8 := Lib.hid (upQ L8.out b973)
                replace TV := Lib.hid (Tab.later TV.out b973)
                replace QM := Lib.hid (Chgs.later QM.out b973)
                replace HT := Lib.hid (Tab.later HT.out b973)
                replace U2 := Lib.hid (Tab.later U2.out b973)
                replace HB := Lib.hid (below2Z HB.out b973)
                clear b973
                cases q1 with
                | false =>
                  go_wp2_with fail
                  refine (live18 _).mono ?_
                  rintro e w1474 ⟨rfl, b1474⟩
                  replace HB := Lib.hid (below2Z HB.out b1474)
                  clear b1474
                  go_wp2_with fail
                  go_ret
                  exact ⟨rfl, HB.out⟩
                | true =>
                  have heq : hs = vw := by have h := quiet_nil Q1.out; have h2 := TA3.out; rw [h] at h2; exact h2
                  rw [heq] at HT
                  go_wp2_with fail
                  refine (tsame_eq HT.out TV.out (Lib.hid (tSame_iff.2 rfl))).mono ?_
                  rintro e w974 ⟨rfl, b974⟩
                  replace L8 := Lib.hid (upQ L8.out b974)
                  replace TV := Lib.hid (Tab.later TV.out b974)
                  replace QM := Lib.hid (Chgs.later QM.out b974)
                  replace HT := Lib.hid (Tab.later HT.out b974)
                  replace U2 := Lib.hid (Tab.later U2.out b974)
                  replace HB := Lib.hid (below2Z HB.out b974)
                  clear b974
                  go_wp2_with fail
                  refine (live18 _).mono ?_
                  rintro e w975 ⟨rfl, b975⟩
                  replace HB := Lib.hid (below2Z HB.out b975)
                  clear b975
                  go_wp2_with fail
                  go_ret
                  exact ⟨rfl, HB.out⟩

theorem walkLinkTold {w : World} (c : Cfg) (_ : CfgFit c) (seq : Int) (v : Value) (la : Bool) (tok at' : Int) (sn : Bool) (dg : Int) (_ : (Lit.int .i64 seq).wf = true) (hv : ∃ t : List Chg, Chgs w v t) (_ : (Lit.int .i64 tok).wf = true) (_ : (Lit.int .i64 at').wf = true) (_ : (Lit.int .i64 dg).wf = true) (vt : Value) (now : Int) (ht : ∃ t : List Row, Tab w vt t) (_ : (Lit.int .i64 now).wf = true) :
    Calls Tryz.prog 6 #[.agg #[.int .i64 c.room, .int .i64 c.burst, .int .i64 c.rate, .int .i64 c.per], .agg #[.int .i64 seq, v, .bool la, .int .i64 tok, .int .i64 at', .bool sn, .int .i64 dg], .agg #[vt, .int .i64 now]] w fun e w' => e = .returned (.bool true) ∧ Below w.heap.size w w' := by
  obtain ⟨ql, hq⟩ := hv
  obtain ⟨view, hw⟩ := ht
  exact ltd hq hw c.room c.burst c.rate c.per seq tok at' dg la sn now

end Go.Proofs.YtndicdomdndjaaaGreat

end

section

/-
  THE FRAME OF THE PROOF OF LinkTold: for every input the law returns true, and each argument reads behind the call as it read before. No condition.
-/
namespace Go.Proofs.YtndicdomdndjaaaGreat.linkTold
open Go.ChangeShapes Go.WideShapes Go.ChangeAt Go.RowKit
open Go.ChangeMaps (open_string shut_string)
set_option linter.unusedVariables false

theorem own : ownKnob Tryz.prog.godebug = none := by kernel_rfl
theorem laidOut : laidOutB Tryz.prog = true := by kernel_rfl

set_option maxRecDepth 100000 in
theorem lifted (os : Os) (started : os.Started) (H : Type) (enc : TypeId × Value → H) :
    ReturnsInHanded {} Tryz.checked os 6 .any (Rows.linkToldSpec.pre6 enc Tryz.prog Tryz.f6 Rows.linkToldRow.domain false) (Rows.linkToldSpec.post enc Tryz.prog Tryz.f6 false true false false) := by
  refine returnsInHanded_of_change (C := Tryz.checked) own started (by kernel_rfl) Tryz.func6
    (ChangeSpec.witness6 (enc := enc) (C := Tryz.checked) false ⟨#[], #[.agg #[.int .i64 0, .int .i64 0, .int .i64 0, .int .i64 0], .agg #[.int .i64 0, .slice none 0 0, .bool false, .int .i64 0, .int .i64 0, .bool false, .int .i64 0], .agg #[.slice none 0 0, .int .i64 0]], []⟩ 8 (by kernel_rfl) (by kernel_rfl) (by kernel_rfl) (by kernel_rfl)) ?_
  intro W base args ds gs before hval0 hW hcnd _
  have hval : ∀ (j : Nat) t v, Tryz.f6.params[j]? = some t → args[j]? = some v → Value.okWide Tryz.prog W .any base t v := hval0
  have hW' := hW
  obtain ⟨p, q, hA0, hV, rfl, hfz, hnd⟩ := hW
  have hA : DataW.TrodAll enc Tryz.prog W 0 (fun _ => true) true Tryz.f6.params.toList args.toList ds p := hA0
  rw [Tryz.params6] at hA hval
  obtain ⟨v0, vs0, d0, ds0, p0, q0, hargs, rfl, rfl, h0, r0⟩ := trodAll_cons hA
  obtain ⟨v1, vs1, d1, ds1, p1, q1, rfl, rfl, rfl, h1, r1⟩ := trodAll_cons r0
  obtain ⟨v2, vs2, d2, ds2, p2, q2, rfl, rfl, rfl, h2, r2⟩ := trodAll_cons r1
  obtain ⟨rfl, rfl, rfl⟩ := trodAll_nil r2
  obtain rfl : args = #[v0, v1, v2] := by cases args; simp_all
  obtain ⟨rfl, rfl⟩ := trodVars_none hV
  have k0 := h0
  have lt0 : ∀ x ∈ p0, x.block < W.heap.size := by obtain ⟨m, hm⟩ := k0; exact DataW.trod_lt m _ _ _ hm
  obtain ⟨a0, rfl, w0⟩ := open_cfg (hval 0 23 v0 rfl rfl) h0
  have k1 := h1
  have lt1 : ∀ x ∈ p1, x.block < W.heap.size := by obtain ⟨m, hm⟩ := k1; exact DataW.trod_lt m _ _ _ hm
  obtain ⟨g1_0, g1_1, g1_2, g1_3, g1_4, g1_5, g1_6, rfl, y1_0, y1_1, y1_2, y1_3, y1_4⟩ := open_lnk (hval 1 30 v1 rfl rfl) h1
  have k2 := h2
  have lt2 : ∀ x ∈ p2, x.block < W.heap.size := by obtain ⟨m, hm⟩ := k2; exact DataW.trod_lt m _ _ _ hm
  obtain ⟨g2_0, g2_1, rfl, y2_0, y2_1⟩ := open_lview (hval 2 48 v2 rfl rfl) h2
  clear hA0 hval0
  refine (walkLinkTold (w := W) a0 w0 g1_0 g1_1 g1_2 g1_3 g1_4 g1_5 g1_6 y1_0 y1_1 y1_2 y1_3 y1_4 g2_0 g2_1 y2_0 y2_1).mono fun e W' ⟨he, bel⟩ => ?_
  subst he
  exact ⟨_, rfl, _, _, _, [], _, [], hW', trodAll_mk1 (shut_bool Tryz.underlying4 _), (trodAll_cons_mk (Below.trod laidOut (by kernel_rfl) (of_decide_eq_true (by kernel_rfl)) k0 bel lt0) (trodAll_cons_mk (Below.trod laidOut (by kernel_rfl) (of_decide_eq_true (by kernel_rfl)) k1 bel lt1) (trodAll_cons_mk (Below.trod laidOut (by kernel_rfl) (of_decide_eq_true (by kernel_rfl)) k2 bel lt2) trodAll_mk0))), rfl, bel.frame _, fun h => by cases h⟩

theorem over : Rows.linkToldRow.holds Tryz.pinned (OpenSpec.ofChange Rows.linkToldSpec) :=
  OpenClaim.holds_of_wide 6 Tryz.f6 rfl rfl rfl rfl rfl rfl rfl ⟨rfl, rfl, rfl, rfl, rfl⟩ rfl rfl rfl rfl rfl (by kernel_rfl) Tryz.func6 (by kernel_rfl)
    (of_decide_eq_true (by kernel_rfl)) (by unfold Func.isWrapper; first | (rw [if_pos (by decide +kernel)]; kernel_rfl) | (rw [if_neg (by decide +kernel)]; exact ⟨rfl, rfl⟩))
    (fun os started H enc _ => lifted os started H enc)

/-- THE STATEMENT. -/
theorem proved : Rows.LinkToldSaid := over
#print axioms proved
end Go.Proofs.YtndicdomdndjaaaGreat.linkTold

end
