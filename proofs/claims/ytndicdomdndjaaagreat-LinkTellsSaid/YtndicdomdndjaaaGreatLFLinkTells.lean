/-
  THE PROOF OF LinkTells: for every input the law returns true, and each argument reads behind the call as it read before. No condition.
-/
import Derived.Test.YtndicdomdndjaaaGreatL09
import Derived.Test.YtndicdomdndjaaaGreatL04
import Derived.Test.YtndicdomdndjaaaGreatL03
import Derived.Test.YtndicdomdndjaaaGreatRows
import Derived.ProofKit
import Derived.OpenShut
import Derived.ShutString
import Derived.ChangeOld
import Derived.SliceStrings
import Derived.Lib.SmallJoins

section

/-
  THE WALK OF LinkTells.
-/
namespace Go.Proofs.YtndicdomdndjaaaGreat
open Go.RowKit

theorem chgs_oneL {W : World} {B : Nat} {xc xs : List UInt8} {xo : Bool} {xa xb xd : Int} (h : CellsAt W B 0 [.string ⟨xc.toArray⟩, .bool xo, .int .i64 xa, .int .i64 xb, .int .i64 xd, .string ⟨xs.toArray⟩]) : Chgs W (.slice (some ⟨B, 0, none⟩) 1 1) [⟨xc, xo, ⟨xa, xb, xd, xs⟩⟩] := by
  refine ⟨_, 1, rfl, by simp, by decide, (fun e => by cases e), .inr ⟨B, 0, rfl, World.block_lt_of_cell? W _ (h 0 _ rfl), fun i hi => ?_⟩⟩
  obtain rfl : i = 0 := by simpa using hi
  exact ⟨h 0 _ rfl, h 1 _ rfl, h 2 _ rfl, h 3 _ rfl, h 4 _ rfl, h 5 _ rfl⟩

set_option maxHeartbeats 12800000 in
set_option maxRecDepth 1000000 in
theorem ltl {w : World} {v : Value} {ql : List Chg} (hv : Chgs w v ql) (ca cb cd ce seq tok at' dg : Int) (la sn : Bool) (xc xs : List UInt8) (xo : Bool) (xa xb xd : Int) :
    Calls Tryz.prog 3 #[.agg #[.int .i64 ca, .int .i64 cb, .int .i64 cd, .int .i64 ce], .agg #[.int .i64 seq, v, .bool la, .int .i64 tok, .int .i64 at', .bool sn, .int .i64 dg], .agg #[.string ⟨xc.toArray⟩, .bool xo, .int .i64 xa, .int .i64 xb, .int .i64 xd, .string ⟨xs.toArray⟩]] w fun e w' => e = .returned (.bool true) ∧ Below w.heap.size w w' := by
  obtain ⟨qn, hqn⟩ : ∃ n, ql.length = n := ⟨_, rfl⟩
  obtain ⟨ao, cap, rfl⟩ := chgs_shape hv hqn
  obtain ⟨f1, hf1⟩ : ∃ r, fewC ql 30 = r := ⟨_, rfl⟩
  obtain ⟨f2, hf2⟩ : ∃ r, fewC [(⟨xc, xo, ⟨xa, xb, xd, xs⟩⟩ : Chg)] 1 = r := ⟨_, rfl⟩
  have F1 := Lib.hid hf1
  have F2 := Lib.hid hf2
  clear hf1 hf2
  have b0 := bl_newZ w (.cells #[.int .i64 ca, .int .i64 cb, .int .i64 cd, .int .i64 ce] 23)
  have b1 := bl_newZ (w.alloc (.cells #[.int .i64 ca, .int .i64 cb, .int .i64 cd, .int .i64 ce] 23)) (.cells #[.int .i64 seq, .slice ao qn cap, .bool la, .int .i64 tok, .int .i64 at', .bool sn, .int .i64 dg] 30)
  have b2 := bl_newZ ((w.alloc (.cells #[.int .i64 ca, .int .i64 cb, .int .i64 cd, .int .i64 ce] 23)).alloc (.cells #[.int .i64 seq, .slice ao qn cap, .bool la, .int .i64 tok, .int .i64 at', .bool sn, .int .i64 dg] 30)) (.cells #[.string ⟨xc.toArray⟩, .bool xo, .int .i64 xa, .int .i64 xb, .int .i64 xd, .string ⟨xs.toArray⟩] 34)
  have HB := Lib.hid (below2Z (below2Z b0 b1) b2)
  have V := Lib.hid (((hv.later b0).later b1).later b2)
  have CB := newQ w (.cells #[.int .i64 ca, .int .i64 cb, .int .i64 cd, .int .i64 ce] 23)
  replace CB := upQ CB b1
  replace CB := upQ CB b2
  replace CB := Lib.hid CB
  have LB := newQ (w.alloc (.cells #[.int .i64 ca, .int .i64 cb, .int .i64 cd, .int .i64 ce] 23)) (.cells #[.int .i64 seq, .slice ao qn cap, .bool la, .int .i64 tok, .int .i64 at', .bool sn, .int .i64 dg] 30)
  rw [World.size_alloc] at LB
  replace LB := upQ LB b2
  replace LB := Lib.hid LB
  have XB := newQ ((w.alloc (.cells #[.int .i64 ca, .int .i64 cb, .int .i64 cd, .int .i64 ce] 23)).alloc (.cells #[.int .i64 seq, .slice ao qn cap, .bool la, .int .i64 tok, .int .i64 at', .bool sn, .int .i64 dg] 30)) (.cells #[.string ⟨xc.toArray⟩, .bool xo, .int .i64 xa, .int .i64 xb, .int .i64 xd, .string ⟨xs.toArray⟩] 34)
  rw [World.size_alloc, World.size_alloc] at XB
  replace XB := Lib.hid XB
  clear b0 b1 b2
  clear hv hqn
  go_enter Tryz.func3, Tryz.ntmps3
  go_upto_region 1 with fail
  generalize ((w.alloc (.cells #[.int .i64 ca, .int .i64 cb, .int .i64 cd, .int .i64 ce] 23)).alloc (.cells #[.int .i64 seq, .slice ao qn cap, .bool la, .int .i64 tok, .int .i64 at', .bool sn, .int .i64 dg] 30)).alloc (.cells #[.string ⟨xc.toArray⟩, .bool xo, .int .i64 xa, .int .i64 xb, .int .i64 xd, .string ⟨xs.toArray⟩] 34) = w4 at CB LB XB V HB ⊢
  obtain ⟨⟨LBc0, LBc1, LBc2, LBc3, LBc4, LBc5, LBc6⟩, ⟨LBf0, LBf1, LBf2, LBf3, LBf4, LBf5, LBf6⟩⟩ := blk7 LB.out
  go_wp2_with fail
  clear LBc0 LBc1 LBc2 LBc3 LBc4 LBc5 LBc6 LBf0 LBf1 LBf2 LBf3 LBf4 LBf5 LBf6
  refine (rlfew_any V.out la sn seq tok at' dg F1).mono ?_
  rintro e w5 ⟨rfl, b5⟩
  replace CB := Lib.hid (upQ CB.out b5)
  replace LB := Lib.hid (upQ LB.out b5)
  replace XB := Lib.hid (upQ XB.out b5)
  replace V := Lib.hid (V.out.later b5)
  replace HB := Lib.hid (below2Z HB.out b5)
  clear b5
  cases f1 with
  | false =>
    go_wp2_with fail
    refine (live18 _).mono ?_
    rintro e w506 ⟨rfl, b506⟩
    replace HB := Lib.hid (below2Z HB.out b506)
    clear b506
    go_wp2_with fail
    go_ret
    exact ⟨rfl, HB.out⟩
  | true =>
    obtain ⟨⟨XBc0, XBc1, XBc2, XBc3, XBc4, XBc5⟩, ⟨XBf0, XBf1, XBf2, XBf3, XBf4, XBf5⟩⟩ := blk6 XB.out
    have b6 := bl_newZ w5 (.cells #[.string ⟨xc.toArray⟩, .bool xo, .int .i64 xa, .int .i64 xb, .int .i64 xd, .string ⟨xs.toArray⟩] 34)
    have SB := newQ w5 (.cells #[.string ⟨xc.toArray⟩, .bool xo, .int .i64 xa, .int .i64 xb, .int .i64 xd, .string ⟨xs.toArray⟩] 34)
    have hSB : w.heap.size ≤ w5.heap.size := HB.out.size
    replace CB := Lib.hid (upQ CB.out b6)
    replace LB := Lib.hid (upQ LB.out b6)
    replace XB := Lib.hid (upQ XB.out b6)
    replace V := Lib.hid (V.out.later b6)
    replace HB := Lib.hid (below2Z HB.out b6)
    clear b6
    replace SB := Lib.hid SB
    have SL : Hid (Chgs (w5.alloc (.cells #[.string ⟨xc.toArray⟩, .bool xo, .int .i64 xa, .int .i64 xb, .int .i64 xd, .string ⟨xs.toArray⟩] 34)) (.slice (some ⟨w5.heap.size, 0, none⟩) 1 1) [⟨xc, xo, ⟨xa, xb, xd, xs⟩⟩]) := Lib.hid (chgs_oneL (cellsAt_block SB.out))
    go_wp2_with fail
    clear XBc0 XBc1 XBc2 XBc3 XBc4 XBc5 XBf0 XBf1 XBf2 XBf3 XBf4 XBf5
    refine (fewc_any SL.out 1 F2).mono ?_
    rintro e w7 ⟨rfl, b7⟩
    replace CB := Lib.hid (upQ CB.out b7)
    replace LB := Lib.hid (upQ LB.out b7)
    replace XB := Lib.hid (upQ XB.out b7)
    replace SB := Lib.hid (upQ SB.out b7)
    replace V := Lib.hid (V.out.later b7)
    replace HB := Lib.hid (below2Z HB.out b7)
    clear b7
    clear SL
    clear SB
    cases f2 with
    | false =>
      go_wp2_with fail
      refine (live18 _).mono ?_
      rintro e w508 ⟨rfl, b508⟩
      replace HB := Lib.hid (below2Z HB.out b508)
      clear b508
      go_wp2_with fail
      go_ret
      exact ⟨rfl, HB.out⟩
    | true =>
      have HS := Lib.hid (fewC_short F1.out)
      have hql := (fewC_get F1.out).1
      have hq30 : ql.length ≤ 30 := by omega
      clear hql F1 F2
      obtain ⟨⟨⟨ns, ⟨nq, nl⟩, ⟨nt, na⟩, nn, nd⟩, ne⟩, hN⟩ : ∃ p, lnNew ⟨ca, cb, cd, ce⟩ dg = p := ⟨_, rfl⟩
      have HN := Lib.hid hN
      clear hN
      obtain ⟨m1, hm1⟩ : ∃ r, lnMay ⟨ca, cb, cd, ce⟩ ⟨seq, ⟨ql, la⟩, ⟨tok, at'⟩, sn, dg⟩ = r := ⟨_, rfl⟩
      have M1 := Lib.hid hm1
      clear hm1
      obtain ⟨q1, hq1⟩ : ∃ r, lnQuiet ⟨seq, ⟨ql, la⟩, ⟨tok, at'⟩, sn, dg⟩ = r := ⟨_, rfl⟩
      have Q1 := Lib.hid hq1
      clear hq1
      obtain ⟨⟨ps, ⟨pq, pl⟩, ⟨pt, pa⟩, pn, pd⟩, hP⟩ : ∃ p, lnPush ⟨ca, cb, cd, ce⟩ ⟨seq, ⟨ql, la⟩, ⟨tok, at'⟩, sn, dg⟩ ⟨xc, xo, ⟨xa, xb, xd, xs⟩⟩ = p := ⟨_, rfl⟩
      have HP := Lib.hid hP
      clear hP
      obtain ⟨⟨CBc0, CBc1, CBc2, CBc3⟩, ⟨CBf0, CBf1, CBf2, CBf3⟩⟩ := blk4 CB.out
      obtain ⟨⟨LBc0, LBc1, LBc2, LBc3, LBc4, LBc5, LBc6⟩, ⟨LBf0, LBf1, LBf2, LBf3, LBf4, LBf5, LBf6⟩⟩ := blk7 LB.out
      go_wp2_with fail
      clear CBc0 CBc1 CBc2 CBc3 CBf0 CBf1 CBf2 CBf3 LBc0 LBc1 LBc2 LBc3 LBc4 LBc5 LBc6 LBf0 LBf1 LBf2 LBf3 LBf4 LBf5 LBf6
      refine (lnew_eq ca cb cd ce dg HN _).mono ?_
      rintro e w8 ⟨rfl, b8⟩
      replace CB := Lib.hid (upQ CB.out b8)
      replace LB := Lib.hid (upQ LB.out b8)
      replace XB := Lib.hid (upQ XB.out b8)
      replace V := Lib.hid (V.out.later b8)
      replace HB := Lib.hid (below2Z HB.out b8)
      clear b8
      have b9 := bl_newZ w8 (.cells #[.int .i64 ns, .slice none 0 0, .bool nl, .int .i64 nt, .int .i64 na, .bool nn, .int .i64 nd] 30)
      have L7 := newQ w8 (.cells #[.int .i64 ns, .slice none 0 0, .bool nl, .int .i64 nt, .int .i64 na, .bool nn, .int .i64 nd] 30)
      have hL7 : w.heap.size ≤ w8.heap.size := HB.out.size
      replace CB := Lib.hid (upQ CB.out b9)
      replace LB := Lib.hid (upQ LB.out b9)
      replace XB := Lib.hid (upQ XB.out b9)
      replace V := Lib.hid (V.out.later b9)
      replace HB := Lib.hid (below2Z HB.out b9)
      clear b9
      replace L7 := Lib.hid L7
      go_upto_region 4 with fail
      generalize w8.alloc (.cells #[.int .i64 ns, .slice none 0 0, .bool nl, .int .i64 nt, .int .i64 na, .bool nn, .int .i64 nd] 30) = w10 at CB LB XB L7 V HB ⊢
      obtain ⟨⟨CBc0, CBc1, CBc2, CBc3⟩, ⟨CBf0, CBf1, CBf2, CBf3⟩⟩ := blk4 CB.out
      obtain ⟨⟨LBc0, LBc1, LBc2, LBc3, LBc4, LBc5, LBc6⟩, ⟨LBf0, LBf1, LBf2, LBf3, LBf4, LBf5, LBf6⟩⟩ := blk7 LB.out
      go_wp2_with fail
      clear CBc0 CBc1 CBc2 CBc3 CBf0 CBf1 CBf2 CBf3 LBc0 LBc1 LBc2 LBc3 LBc4 LBc5 LBc6 LBf0 LBf1 LBf2 LBf3 LBf4 LBf5 LBf6
      refine (rlnew_eq ca cb cd ce dg HN _).mono ?_
      rintro e w11 ⟨rfl, b11⟩
      replace CB := Lib.hid (upQ CB.out b11)
      replace LB := Lib.hid (upQ LB.out b11)
      replace XB := Lib.hid (upQ XB.out b11)
      replace L7 := Lib.hid (upQ L7.out b11)
      replace V := Lib.hid (V.out.later b11)
      replace HB := Lib.hid (below2Z HB.out b11)
      clear b11
      have b12 := bl_newZ w11 (.cells #[.int .i64 ns, .slice none 0 0, .bool nl, .int .i64 nt, .int .i64 na, .bool nn, .int .i64 nd] 30)
      have L9 := newQ w11 (.cells #[.int .i64 ns, .slice none 0 0, .bool nl, .int .i64 nt, .int .i64 na, .bool nn, .int .i64 nd] 30)
      have hL9 : w.heap.size ≤ w11.heap.size := HB.out.size
      replace CB := Lib.hid (upQ CB.out b12)
      replace LB := Lib.hid (upQ LB.out b12)
      replace XB := Lib.hid (upQ XB.out b12)
      replace L7 := Lib.hid (upQ L7.out b12)
      replace V := Lib.hid (V.out.later b12)
      replace HB := Lib.hid (below2Z HB.out b12)
      clear b12
      replace L9 := Lib.hid L9
      go_upto_region 5 with fail
      generalize w11.alloc (.cells #[.int .i64 ns, .slice none 0 0, .bool nl, .int .i64 nt, .int .i64 na, .bool nn, .int .i64 nd] 30) = w13 at CB LB XB L7 L9 V HB ⊢
      have e1 := bool_eqlL m1
      have e2 := bool_eqlL q1
      obtain ⟨BS, hBS⟩ : ∃ BS : List (Nat × List Value), BS = [(w.heap.size, [.int .i64 ca, .int .i64 cb, .int .i64 cd, .int .i64 ce]), (w.heap.size + 1, [.int .i64 seq, .slice ao qn cap, .bool la, .int .i64 tok, .int .i64 at', .bool sn, .int .i64 dg]), (w.heap.size + 1 + 1, [.string ⟨xc.toArray⟩, .bool xo, .int .i64 xa, .int .i64 xb, .int .i64 xd, .string ⟨xs.toArray⟩]), (w8.heap.size, [.int .i64 ns, .slice none 0 0, .bool nl, .int .i64 nt, .int .i64 na, .bool nn, .int .i64 nd]), (w11.heap.size, [.int .i64 ns, .slice none 0 0, .bool nl, .int .i64 nt, .int .i64 na, .bool nn, .int .i64 nd])] := ⟨_, rfl⟩
      have D0 := Lib.hid (show heldB w13 BS from by rw [hBS]; exact heldB_cons (cellsAt_block CB.out) (heldB_cons (cellsAt_block LB.out) (heldB_cons (cellsAt_block XB.out) (heldB_cons (cellsAt_block L7.out) (heldB_cons (cellsAt_block L9.out) (heldB_nil _))))))
      have hq0 : ∀ X, heldB X BS → X.cell? ⟨w.heap.size, 0, none⟩ = some (.int .i64 ca) := fun X hx => heldB_get (vs := [.int .i64 ca, .int .i64 cb, .int .i64 cd, .int .i64 ce]) hx (by rw [hBS]; simp) rfl
      have hq1 : ∀ X, heldB X BS → X.cell? ⟨w.heap.size, 1, none⟩ = some (.int .i64 cb) := fun X hx => heldB_get (vs := [.int .i64 ca, .int .i64 cb, .int .i64 cd, .int .i64 ce]) hx (by rw [hBS]; simp) rfl
      have hq2 : ∀ X, heldB X BS → X.cell? ⟨w.heap.size, 2, none⟩ = some (.int .i64 cd) := fun X hx => heldB_get (vs := [.int .i64 ca, .int .i64 cb, .int .i64 cd, .int .i64 ce]) hx (by rw [hBS]; simp) rfl
      have hq3 : ∀ X, heldB X BS → X.cell? ⟨w.heap.size, 3, none⟩ = some (.int .i64 ce) := fun X hx => heldB_get (vs := [.int .i64 ca, .int .i64 cb, .int .i64 cd, .int .i64 ce]) hx (by rw [hBS]; simp) rfl
      have hq4 : ∀ X, heldB X BS → X.cell? ⟨w.heap.size + 1, 0, none⟩ = some (.int .i64 seq) := fun X hx => heldB_get (vs := [.int .i64 seq, .slice ao qn cap, .bool la, .int .i64 tok, .int .i64 at', .bool sn, .int .i64 dg]) hx (by rw [hBS]; simp) rfl
      have hq5 : ∀ X, heldB X BS → X.cell? ⟨w.heap.size + 1, 1, none⟩ = some (.slice ao qn cap) := fun X hx => heldB_get (vs := [.int .i64 seq, .slice ao qn cap, .bool la, .int .i64 tok, .int .i64 at', .bool sn, .int .i64 dg]) hx (by rw [hBS]; simp) rfl
      have hq6 : ∀ X, heldB X BS → X.cell? ⟨w.heap.size + 1, 2, none⟩ = some (.bool la) := fun X hx => heldB_get (vs := [.int .i64 seq, .slice ao qn cap, .bool la, .int .i64 tok, .int .i64 at', .bool sn, .int .i64 dg]) hx (by rw [hBS]; simp) rfl
      have hq7 : ∀ X, heldB X BS → X.cell? ⟨w.heap.size + 1, 3, none⟩ = some (.int .i64 tok) := fun X hx => heldB_get (vs := [.int .i64 seq, .slice ao qn cap, .bool la, .int .i64 tok, .int .i64 at', .bool sn, .int .i64 dg]) hx (by rw [hBS]; simp) rfl
      have hq8 : ∀ X, heldB X BS → X.cell? ⟨w.heap.size + 1, 4, none⟩ = some (.int .i64 at') := fun X hx => heldB_get (vs := [.int .i64 seq, .slice ao qn cap, .bool la, .int .i64 tok, .int .i64 at', .bool sn, .int .i64 dg]) hx (by rw [hBS]; simp) rfl
      have hq9 : ∀ X, heldB X BS → X.cell? ⟨w.heap.size + 1, 5, none⟩ = some (.bool sn) := fun X hx => heldB_get (vs := [.int .i64 seq, .slice ao qn cap, .bool la, .int .i64 tok, .int .i64 at', .bool sn, .int .i64 dg]) hx (by rw [hBS]; simp) rfl
      have hq10 : ∀ X, heldB X BS → X.cell? ⟨w.heap.size + 1, 6, none⟩ = some (.int .i64 dg) := fun X hx => heldB_get (vs := [.int .i64 seq, .slice ao qn cap, .bool la, .int .i64 tok, .int .i64 at', .bool sn, .int .i64 dg]) hx (by rw [hBS]; simp) rfl
      have hq11 : ∀ X, heldB X BS → X.cell? ⟨w.heap.size + 1 + 1, 0, none⟩ = some (.string ⟨xc.toArray⟩) := fun X hx => heldB_get (vs := [.string ⟨xc.toArray⟩, .bool xo, .int .i64 xa, .int .i64 xb, .int .i64 xd, .string ⟨xs.toArray⟩]) hx (by rw [hBS]; simp) rfl
      have hq12 : ∀ X, heldB X BS → X.cell? ⟨w.heap.size + 1 + 1, 1, none⟩ = some (.bool xo) := fun X hx => heldB_get (vs := [.string ⟨xc.toArray⟩, .bool xo, .int .i64 xa, .int .i64 xb, .int .i64 xd, .string ⟨xs.toArray⟩]) hx (by rw [hBS]; simp) rfl
      have hq13 : ∀ X, heldB X BS → X.cell? ⟨w.heap.size + 1 + 1, 2, none⟩ = some (.int .i64 xa) := fun X hx => heldB_get (vs := [.string ⟨xc.toArray⟩, .bool xo, .int .i64 xa, .int .i64 xb, .int .i64 xd, .string ⟨xs.toArray⟩]) hx (by rw [hBS]; simp) rfl
      have hq14 : ∀ X, heldB X BS → X.cell? ⟨w.heap.size + 1 + 1, 3, none⟩ = some (.int .i64 xb) := fun X hx => heldB_get (vs := [.string ⟨xc.toArray⟩, .bool xo, .int .i64 xa, .int .i64 xb, .int .i64 xd, .string ⟨xs.toArray⟩]) hx (by rw [hBS]; simp) rfl
      have hq15 : ∀ X, heldB X BS → X.cell? ⟨w.heap.size + 1 + 1, 4, none⟩ = some (.int .i64 xd) := fun X hx => heldB_get (vs := [.string ⟨xc.toArray⟩, .bool xo, .int .i64 xa, .int .i64 xb, .int .i64 xd, .string ⟨xs.toArray⟩]) hx (by rw [hBS]; simp) rfl
      have hq16 : ∀ X, heldB X BS → X.cell? ⟨w.heap.size + 1 + 1, 5, none⟩ = some (.string ⟨xs.toArray⟩) := fun X hx => heldB_get (vs := [.string ⟨xc.toArray⟩, .bool xo, .int .i64 xa, .int .i64 xb, .int .i64 xd, .string ⟨xs.toArray⟩]) hx (by rw [hBS]; simp) rfl
      have hq17 : ∀ X, heldB X BS → X.cell? ⟨w8.heap.size, 0, none⟩ = some (.int .i64 ns) := fun X hx => heldB_get (vs := [.int .i64 ns, .slice none 0 0, .bool nl, .int .i64 nt, .int .i64 na, .bool nn, .int .i64 nd]) hx (by rw [hBS]; simp) rfl
      have hq18 : ∀ X, heldB X BS → X.cell? ⟨w8.heap.size, 1, none⟩ = some (.slice none 0 0) := fun X hx => heldB_get (vs := [.int .i64 ns, .slice none 0 0, .bool nl, .int .i64 nt, .int .i64 na, .bool nn, .int .i64 nd]) hx (by rw [hBS]; simp) rfl
      have hq19 : ∀ X, heldB X BS → X.cell? ⟨w8.heap.size, 2, none⟩ = some (.bool nl) := fun X hx => heldB_get (vs := [.int .i64 ns, .slice none 0 0, .bool nl, .int .i64 nt, .int .i64 na, .bool nn, .int .i64 nd]) hx (by rw [hBS]; simp) rfl
      have hq20 : ∀ X, heldB X BS → X.cell? ⟨w8.heap.size, 3, none⟩ = some (.int .i64 nt) := fun X hx => heldB_get (vs := [.int .i64 ns, .slice none 0 0, .bool nl, .int .i64 nt, .int .i64 na, .bool nn, .int .i64 nd]) hx (by rw [hBS]; simp) rfl
      have hq21 : ∀ X, heldB X BS → X.cell? ⟨w8.heap.size, 4, none⟩ = some (.int .i64 na) := fun X hx => heldB_get (vs := [.int .i64 ns, .slice none 0 0, .bool nl, .int .i64 nt, .int .i64 na, .bool nn, .int .i64 nd]) hx (by rw [hBS]; simp) rfl
      have hq22 : ∀ X, heldB X BS → X.cell? ⟨w8.heap.size, 5, none⟩ = some (.bool nn) := fun X hx => heldB_get (vs := [.int .i64 ns, .slice none 0 0, .bool nl, .int .i64 nt, .int .i64 na, .bool nn, .int .i64 nd]) hx (by rw [hBS]; simp) rfl
      have hq23 : ∀ X, heldB X BS → X.cell? ⟨w8.heap.size, 6, none⟩ = some (.int .i64 nd) := fun X hx => heldB_get (vs := [.int .i64 ns, .slice none 0 0, .bool nl, .int .i64 nt, .int .i64 na, .bool nn, .int .i64 nd]) hx (by rw [hBS]; simp) rfl
      have hq24 : ∀ X, heldB X BS → X.cell? ⟨w11.heap.size, 0, none⟩ = some (.int .i64 ns) := fun X hx => heldB_get (vs := [.int .i64 ns, .slice none 0 0, .bool nl, .int .i64 nt, .int .i64 na, .bool nn, .int .i64 nd]) hx (by rw [hBS]; simp) rfl
      have hq25 : ∀ X, heldB X BS → X.cell? ⟨w11.heap.size, 1, none⟩ = some (.slice none 0 0) := fun X hx => heldB_get (vs := [.int .i64 ns, .slice none 0 0, .bool nl, .int .i64 nt, .int .i64 na, .bool nn, .int .i64 nd]) hx (by rw [hBS]; simp) rfl
      have hq26 : ∀ X, heldB X BS → X.cell? ⟨w11.heap.size, 2, none⟩ = some (.bool nl) := fun X hx => heldB_get (vs := [.int .i64 ns, .slice none 0 0, .bool nl, .int .i64 nt, .int .i64 na, .bool nn, .int .i64 nd]) hx (by rw [hBS]; simp) rfl
      have hq27 : ∀ X, heldB X BS → X.cell? ⟨w11.heap.size, 3, none⟩ = some (.int .i64 nt) := fun X hx => heldB_get (vs := [.int .i64 ns, .slice none 0 0, .bool nl, .int .i64 nt, .int .i64 na, .bool nn, .int .i64 nd]) hx (by rw [hBS]; simp) rfl
      have hq28 : ∀ X, heldB X BS → X.cell? ⟨w11.heap.size, 4, none⟩ = some (.int .i64 na) := fun X hx => heldB_get (vs := [.int .i64 ns, .slice none 0 0, .bool nl, .int .i64 nt, .int .i64 na, .bool nn, .int .i64 nd]) hx (by rw [hBS]; simp) rfl
      have hq29 : ∀ X, heldB X BS → X.cell? ⟨w11.heap.size, 5, none⟩ = some (.bool nn) := fun X hx => heldB_get (vs := [.int .i64 ns, .slice none 0 0, .bool nl, .int .i64 nt, .int .i64 na, .bool nn, .int .i64 nd]) hx (by rw [hBS]; simp) rfl
      have hq30 : ∀ X, heldB X BS → X.cell? ⟨w11.heap.size, 6, none⟩ = some (.int .i64 nd) := fun X hx => heldB_get (vs := [.int .i64 ns, .slice none 0 0, .bool nl, .int .i64 nt, .int .i64 na, .bool nn, .int .i64 nd]) hx (by rw [hBS]; simp) rfl
      clear hBS
      have K0 : Hid (Below w13.heap.size w13 w13.drew) := Lib.hid (Below.refl _ _).drew
      refine wp_region_held_drew (S := (fun X => heldB X BS)) (by kernel_rfl) ?_ (fun hHeld => ?_)
      · exact heldB_up K0.out D0.out
      generalize w13.drew = z0 at K0 hHeld ⊢
      refine wpAnyH_take (i := 0) (oi := { dst := some 35, op := Op.load 30 (Operand.tmp 7), type := 30, pos := "law.go:40", after := #[], guard := none }) (v := ?_) rfl (by as_aux_lemma => kernel_rfl) (by as_aux_lemma => kernel_rfl) (by as_aux_lemma => kernel_rfl) (fun _ _ _ h => h) (Or.inl ⟨by rfl, ?_⟩) (by assumption) ?_
      rotate_left
      · intro w' hSw
        try dsimp only at hSw
        go_simp
        try with_reducible rfl
      try simp only [Act.put, List.setIfInBounds_toArray, List.set_cons_zero, List.set_cons_succ]
      refine wpAnyH_take (i := 1) (oi := { dst := some 36, op := Op.load 30 (Operand.tmp 9), type := 30, pos := "law.go:40", after := #[], guard := none }) (v := ?_) rfl (by as_aux_lemma => kernel_rfl) (by as_aux_lemma => kernel_rfl) (by as_aux_lemma => kernel_rfl) (fun _ _ _ h => h) (Or.inl ⟨by rfl, ?_⟩) (by assumption) ?_
      rotate_left
      · intro w' hSw
        try dsimp only at hSw
        go_simp
        try with_reducible rfl
      try simp only [Act.put, List.setIfInBounds_toArray, List.set_cons_zero, List.set_cons_succ]
      refine wpAnyH_ready (rs := [2]) (by as_aux_lemma => kernel_rfl) (by simp) ?_
      refine AllReadyH.cons (o := { dst := some 37, op := Op.call { callee := Callee.value (Operand.func 13), args := #[Operand.tmp 35, Operand.tmp 36], argTypes := #[30, 30] }, type := 4, pos := "law.go:40", after := #[{ on := 0, ground := Ground.data }, { on := 1, ground := Ground.data }], guard := none }) rfl (fun Kx hK => ?_) AllReadyH.nil
      go_simp
      refine (rlsame_yes (chgs_nil _) (chgs_nil _) nl nn ns nt na nd).mono ?_
      rintro e z1001 ⟨rfl, bz1001⟩
      have K1001 := Lib.hid (below2Z K0.out bz1001)
      have D1001 := Lib.hid (heldB_up K1001.out D0.out)
      clear bz1001
      go_wp2_with fail
      refine hK.out _ _ ?_ (fun hHeld2 => ?_)
      · exact D1001.out
      clear hK Kx hHeld
      have hHeld := hHeld2
      clear hHeld2
      try simp only [Act.put, List.setIfInBounds_toArray, List.set_cons_zero, List.set_cons_succ]
      refine wpAnyH_take (i := 3) (oi := { dst := some 38, op := Op.move (Operand.tmp 37), type := 4, pos := "law.go:40", after := #[{ on := 2, ground := Ground.data }, { on := 2, ground := Ground.chain }], guard := none }) (v := ?_) rfl (by as_aux_lemma => kernel_rfl) (by as_aux_lemma => kernel_rfl) (by as_aux_lemma => kernel_rfl) (fun _ _ _ h => h) (Or.inl ⟨by rfl, ?_⟩) (by assumption) ?_
      rotate_left
      · intro w' hSw
        try dsimp only at hSw
        go_simp
        try with_reducible rfl
      try simp only [Act.put, List.setIfInBounds_toArray, List.set_cons_zero, List.set_cons_succ]
      refine wpAnyH_take (i := 4) (oi := { dst := some 39, op := Op.move (Operand.tmp 8), type := 38, pos := "law.go:40", after := #[{ on := 3, ground := Ground.guard }], guard := some (3, true) }) (v := ?_) rfl (by as_aux_lemma => kernel_rfl) (by as_aux_lemma => kernel_rfl) (by as_aux_lemma => kernel_rfl) (fun _ _ _ h => h) (Or.inl ⟨by rfl, ?_⟩) (by assumption) ?_
      rotate_left
      · intro w' hSw
        try dsimp only at hSw
        go_simp
        try with_reducible rfl
      try simp only [Act.put, List.setIfInBounds_toArray, List.set_cons_zero, List.set_cons_succ]
      refine wpAnyH_take (i := 5) (oi := { dst := some 40, op := Op.move (Operand.tmp 10), type := 38, pos := "law.go:40", after := #[{ on := 3, ground := Ground.guard }], guard := some (3, true) }) (v := ?_) rfl (by as_aux_lemma => kernel_rfl) (by as_aux_lemma => kernel_rfl) (by as_aux_lemma => kernel_rfl) (fun _ _ _ h => h) (Or.inl ⟨by rfl, ?_⟩) (by assumption) ?_
      rotate_left
      · intro w' hSw
        try dsimp only at hSw
        go_simp
        try with_reducible rfl
      try simp only [Act.put, List.setIfInBounds_toArray, List.set_cons_zero, List.set_cons_succ]
      refine wpAnyH_take (i := 6) (oi := { dst := some 41, op := Op.binOp BinOp.eql 38 (Operand.tmp 39) (Operand.tmp 40) 38, type := 4, pos := "law.go:40", after := #[{ on := 4, ground := Ground.data }, { on := 5, ground := Ground.data }, { on := 3, ground := Ground.guard }], guard := some (3, true) }) (v := ?_) rfl (by as_aux_lemma => kernel_rfl) (by as_aux_lemma => kernel_rfl) (by as_aux_lemma => kernel_rfl) (fun _ _ _ h => h) (Or.inl ⟨by rfl, ?_⟩) (by assumption) ?_
      rotate_left
      · intro w' hSw
        try dsimp only at hSw
        go_simp
        try with_reducible rfl
      try simp only [Act.put, List.setIfInBounds_toArray, List.set_cons_zero, List.set_cons_succ]
      refine wpAnyH_take (i := 7) (oi := { dst := some 42, op := Op.pick (Operand.tmp 38) (Operand.tmp 41) (Operand.const (Value.bool false)), type := 4, pos := "law.go:40", after := #[{ on := 3, ground := Ground.data }, { on := 6, ground := Ground.data }], guard := none }) (v := ?_) rfl (by as_aux_lemma => kernel_rfl) (by as_aux_lemma => kernel_rfl) (by as_aux_lemma => kernel_rfl) (fun _ _ _ h => h) (Or.inl ⟨by rfl, ?_⟩) (by assumption) ?_
      rotate_left
      · intro w' hSw
        try dsimp only at hSw
        go_simp
        try with_reducible rfl
      try simp only [Act.put, List.setIfInBounds_toArray, List.set_cons_zero, List.set_cons_succ]
      refine wpAnyH_take (i := 8) (oi := { dst := some 43, op := Op.move (Operand.tmp 42), type := 4, pos := "law.go:40", after := #[{ on := 7, ground := Ground.data }, { on := 3, ground := Ground.chain }], guard := none }) (v := ?_) rfl (by as_aux_lemma => kernel_rfl) (by as_aux_lemma => kernel_rfl) (by as_aux_lemma => kernel_rfl) (fun _ _ _ h => h) (Or.inl ⟨by rfl, ?_⟩) (by assumption) ?_
      rotate_left
      · intro w' hSw
        try dsimp only at hSw
        go_simp
        try with_reducible rfl
      try simp only [Act.put, List.setIfInBounds_toArray, List.set_cons_zero, List.set_cons_succ]
      refine wpAnyH_take (i := 9) (oi := { dst := some 44, op := Op.load 23 (Operand.tmp 3), type := 23, pos := "law.go:40", after := #[{ on := 8, ground := Ground.guard }], guard := some (8, true) }) (v := ?_) rfl (by as_aux_lemma => kernel_rfl) (by as_aux_lemma => kernel_rfl) (by as_aux_lemma => kernel_rfl) (fun _ _ _ h => h) (Or.inl ⟨by rfl, ?_⟩) (by assumption) ?_
      rotate_left
      · intro w' hSw
        try dsimp only at hSw
        go_simp
        try with_reducible rfl
      try simp only [Act.put, List.setIfInBounds_toArray, List.set_cons_zero, List.set_cons_succ]
      refine wpAnyH_take (i := 10) (oi := { dst := some 45, op := Op.load 30 (Operand.tmp 4), type := 30, pos := "law.go:40", after := #[{ on := 8, ground := Ground.guard }], guard := some (8, true) }) (v := ?_) rfl (by as_aux_lemma => kernel_rfl) (by as_aux_lemma => kernel_rfl) (by as_aux_lemma => kernel_rfl) (fun _ _ _ h => h) (Or.inl ⟨by rfl, ?_⟩) (by assumption) ?_
      rotate_left
      · intro w' hSw
        try dsimp only at hSw
        go_simp
        try with_reducible rfl
      try simp only [Act.put, List.setIfInBounds_toArray, List.set_cons_zero, List.set_cons_succ]
      refine wpAnyH_take (i := 12) (oi := { dst := some 47, op := Op.load 23 (Operand.tmp 3), type := 23, pos := "law.go:40", after := #[{ on := 8, ground := Ground.guard }], guard := some (8, true) }) (v := ?_) rfl (by as_aux_lemma => kernel_rfl) (by as_aux_lemma => kernel_rfl) (by as_aux_lemma => kernel_rfl) (fun _ _ _ h => h) (Or.inl ⟨by rfl, ?_⟩) (by assumption) ?_
      rotate_left
      · intro w' hSw
        try dsimp only at hSw
        go_simp
        try with_reducible rfl
      try simp only [Act.put, List.setIfInBounds_toArray, List.set_cons_zero, List.set_cons_succ]
      refine wpAnyH_take (i := 13) (oi := { dst := some 48, op := Op.load 30 (Operand.tmp 4), type := 30, pos := "law.go:40", after := #[{ on := 8, ground := Ground.guard }], guard := some (8, true) }) (v := ?_) rfl (by as_aux_lemma => kernel_rfl) (by as_aux_lemma => kernel_rfl) (by as_aux_lemma => kernel_rfl) (fun _ _ _ h => h) (Or.inl ⟨by rfl, ?_⟩) (by assumption) ?_
      rotate_left
      · intro w' hSw
        try dsimp only at hSw
        go_simp
        try with_reducible rfl
      try simp only [Act.put, List.setIfInBounds_toArray, List.set_cons_zero, List.set_cons_succ]
      refine wpAnyH_ready (rs := [11]) (by as_aux_lemma => kernel_rfl) (by simp) ?_
      refine AllReadyH.cons (o := { dst := some 46, op := Op.call { callee := Callee.value (Operand.func 14), args := #[Operand.tmp 44, Operand.tmp 45], argTypes := #[23, 30] }, type := 4, pos := "law.go:40", after := #[{ on := 9, ground := Ground.data }, { on := 10, ground := Ground.data }, { on := 8, ground := Ground.chain }, { on := 8, ground := Ground.guard }], guard := some (8, true) }) rfl (fun Kx hK => ?_) AllReadyH.nil
      go_simp
      refine (lmay_any (V.out.later K1001.out) HS.out (by omega) la sn seq tok at' dg ca cb cd ce M1).mono ?_
      rintro e z1002 ⟨rfl, bz1002⟩
      have K1002 := Lib.hid (below2Z K1001.out bz1002)
      have D1002 := Lib.hid (heldB_up K1002.out D0.out)
      clear bz1002
      go_wp2_with fail
      refine hK.out _ _ ?_ (fun hHeld2 => ?_)
      · exact D1002.out
      clear hK Kx hHeld
      have hHeld := hHeld2
      clear hHeld2
      try simp only [Act.put, List.setIfInBounds_toArray, List.set_cons_zero, List.set_cons_succ]
      refine wpAnyH_ready (rs := [14]) (by as_aux_lemma => kernel_rfl) (by simp) ?_
      refine AllReadyH.cons (o := { dst := some 49, op := Op.call { callee := Callee.value (Operand.func 15), args := #[Operand.tmp 47, Operand.tmp 48], argTypes := #[23, 30] }, type := 4, pos := "law.go:40", after := #[{ on := 12, ground := Ground.data }, { on := 13, ground := Ground.data }, { on := 11, ground := Ground.chain }, { on := 8, ground := Ground.guard }], guard := some (8, true) }) rfl (fun Kx hK => ?_) AllReadyH.nil
      go_simp
      refine (rlmay_any (V.out.later K1002.out) HS.out (by omega) la sn seq tok at' dg ca cb cd ce M1).mono ?_
      rintro e z1003 ⟨rfl, bz1003⟩
      have K1003 := Lib.hid (below2Z K1002.out bz1003)
      have D1003 := Lib.hid (heldB_up K1003.out D0.out)
      clear bz1003
      go_wp2_with fail
      refine hK.out _ _ ?_ (fun hHeld2 => ?_)
      · exact D1003.out
      clear hK Kx hHeld
      have hHeld := hHeld2
      clear hHeld2
      try simp only [Act.put, List.setIfInBounds_toArray, List.set_cons_zero, List.set_cons_succ]
      refine wpAnyH_take (i := 15) (oi := { dst := some 50, op := Op.binOp BinOp.eql 4 (Operand.tmp 46) (Operand.tmp 49) 4, type := 4, pos := "law.go:40", after := #[{ on := 11, ground := Ground.data }, { on := 14, ground := Ground.data }, { on := 8, ground := Ground.guard }], guard := some (8, true) }) (v := ?_) rfl (by as_aux_lemma => kernel_rfl) (by as_aux_lemma => kernel_rfl) (by as_aux_lemma => kernel_rfl) (fun _ _ _ h => h) (Or.inl ⟨by rfl, ?_⟩) (by assumption) ?_
      rotate_left
      · intro w' hSw
        try dsimp only at hSw
        go_simp
        try with_reducible rfl
      try simp only [Act.put, List.setIfInBounds_toArray, List.set_cons_zero, List.set_cons_succ]
      refine wpAnyH_take (i := 16) (oi := { dst := some 51, op := Op.pick (Operand.tmp 43) (Operand.tmp 50) (Operand.const (Value.bool false)), type := 4, pos := "law.go:40", after := #[{ on := 8, ground := Ground.data }, { on := 15, ground := Ground.data }], guard := none }) (v := ?_) rfl (by as_aux_lemma => kernel_rfl) (by as_aux_lemma => kernel_rfl) (by as_aux_lemma => kernel_rfl) (fun _ _ _ h => h) (Or.inl ⟨by rfl, ?_⟩) (by assumption) ?_
      rotate_left
      · intro w' hSw
        try dsimp only at hSw
        go_simp
        try with_reducible rfl
      try simp only [Act.put, List.setIfInBounds_toArray, List.set_cons_zero, List.set_cons_succ]
      refine wpAnyH_take (i := 17) (oi := { dst := some 52, op := Op.move (Operand.tmp 51), type := 4, pos := "law.go:40", after := #[{ on := 16, ground := Ground.data }, { on := 14, ground := Ground.chain }], guard := none }) (v := ?_) rfl (by as_aux_lemma => kernel_rfl) (by as_aux_lemma => kernel_rfl) (by as_aux_lemma => kernel_rfl) (fun _ _ _ h => h) (Or.inl ⟨by rfl, ?_⟩) (by assumption) ?_
      rotate_left
      · intro w' hSw
        try dsimp only at hSw
        go_simp
        try with_reducible rfl
      try simp only [Act.put, List.setIfInBounds_toArray, List.set_cons_zero, List.set_cons_succ]
      refine wpAnyH_take (i := 18) (oi := { dst := some 53, op := Op.load 30 (Operand.tmp 4), type := 30, pos := "law.go:40", after := #[{ on := 17, ground := Ground.guard }], guard := some (17, true) }) (v := ?_) rfl (by as_aux_lemma => kernel_rfl) (by as_aux_lemma => kernel_rfl) (by as_aux_lemma => kernel_rfl) (fun _ _ _ h => h) (Or.inl ⟨by rfl, ?_⟩) (by assumption) ?_
      rotate_left
      · intro w' hSw
        try dsimp only at hSw
        go_simp
        try with_reducible rfl
      try simp only [Act.put, List.setIfInBounds_toArray, List.set_cons_zero, List.set_cons_succ]
      refine wpAnyH_take (i := 20) (oi := { dst := some 55, op := Op.load 30 (Operand.tmp 4), type := 30, pos := "law.go:40", after := #[{ on := 17, ground := Ground.guard }], guard := some (17, true) }) (v := ?_) rfl (by as_aux_lemma => kernel_rfl) (by as_aux_lemma => kernel_rfl) (by as_aux_lemma => kernel_rfl) (fun _ _ _ h => h) (Or.inl ⟨by rfl, ?_⟩) (by assumption) ?_
      rotate_left
      · intro w' hSw
        try dsimp only at hSw
        go_simp
        try with_reducible rfl
      try simp only [Act.put, List.setIfInBounds_toArray, List.set_cons_zero, List.set_cons_succ]
      refine wpAnyH_ready (rs := [19]) (by as_aux_lemma => kernel_rfl) (by simp) ?_
      refine AllReadyH.cons (o := { dst := some 54, op := Op.call { callee := Callee.value (Operand.func 16), args := #[Operand.tmp 53], argTypes := #[30] }, type := 4, pos := "law.go:40", after := #[{ on := 18, ground := Ground.data }, { on := 17, ground := Ground.chain }, { on := 17, ground := Ground.guard }], guard := some (17, true) }) rfl (fun Kx hK => ?_) AllReadyH.nil
      go_simp
      refine (lquiet_any (V.out.later K1003.out) la sn seq tok at' dg Q1).mono ?_
      rintro e z1004 ⟨rfl, bz1004⟩
      have K1004 := Lib.hid (below2Z K1003.out bz1004)
      have D1004 := Lib.hid (heldB_up K1004.out D0.out)
      clear bz1004
      go_wp2_with fail
      refine hK.out _ _ ?_ (fun hHeld2 => ?_)
      · exact D1004.out
      clear hK Kx hHeld
      have hHeld := hHeld2
      clear hHeld2
      try simp only [Act.put, List.setIfInBounds_toArray, List.set_cons_zero, List.set_cons_succ]
      refine wpAnyH_ready (rs := [21]) (by as_aux_lemma => kernel_rfl) (by simp) ?_
      refine AllReadyH.cons (o := { dst := some 56, op := Op.call { callee := Callee.value (Operand.func 17), args := #[Operand.tmp 55], argTypes := #[30] }, type := 4, pos := "law.go:40", after := #[{ on := 20, ground := Ground.data }, { on := 19, ground := Ground.chain }, { on := 17, ground := Ground.guard }], guard := some (17, true) }) rfl (fun Kx hK => ?_) AllReadyH.nil
      go_simp
      refine (rlquiet_any (V.out.later K1004.out) la sn seq tok at' dg Q1).mono ?_
      rintro e z1005 ⟨rfl, bz1005⟩
      have K1005 := Lib.hid (below2Z K1004.out bz1005)
      have D1005 := Lib.hid (heldB_up K1005.out D0.out)
      clear bz1005
      go_wp2_with fail
      refine hK.out _ _ ?_ (fun hHeld2 => ?_)
      · exact D1005.out
      clear hK Kx hHeld
      have hHeld := hHeld2
      clear hHeld2
      try simp only [Act.put, List.setIfInBounds_toArray, List.set_cons_zero, List.set_cons_succ]
      refine wpAnyH_take (i := 22) (oi := { dst := some 57, op := Op.binOp BinOp.eql 4 (Operand.tmp 54) (Operand.tmp 56) 4, type := 4, pos := "law.go:40", after := #[{ on := 19, ground := Ground.data }, { on := 21, ground := Ground.data }, { on := 17, ground := Ground.guard }], guard := some (17, true) }) (v := ?_) rfl (by as_aux_lemma => kernel_rfl) (by as_aux_lemma => kernel_rfl) (by as_aux_lemma => kernel_rfl) (fun _ _ _ h => h) (Or.inl ⟨by rfl, ?_⟩) (by assumption) ?_
      rotate_left
      · intro w' hSw
        try dsimp only at hSw
        go_simp
        try with_reducible rfl
      try simp only [Act.put, List.setIfInBounds_toArray, List.set_cons_zero, List.set_cons_succ]
      refine wpAnyH_take (i := 23) (oi := { dst := some 58, op := Op.pick (Operand.tmp 52) (Operand.tmp 57) (Operand.const (Value.bool false)), type := 4, pos := "law.go:40", after := #[{ on := 17, ground := Ground.data }, { on := 22, ground := Ground.data }], guard := none }) (v := ?_) rfl (by as_aux_lemma => kernel_rfl) (by as_aux_lemma => kernel_rfl) (by as_aux_lemma => kernel_rfl) (fun _ _ _ h => h) (Or.inl ⟨by rfl, ?_⟩) (by assumption) ?_
      rotate_left
      · intro w' hSw
        try dsimp only at hSw
        go_simp
        try with_reducible rfl
      try simp only [Act.put, List.setIfInBounds_toArray, List.set_cons_zero, List.set_cons_succ]
      refine wpAnyH_take (i := 24) (oi := { dst := some 59, op := Op.move (Operand.tmp 58), type := 4, pos := "law.go:40", after := #[{ on := 23, ground := Ground.data }, { on := 21, ground := Ground.chain }], guard := none }) (v := ?_) rfl (by as_aux_lemma => kernel_rfl) (by as_aux_lemma => kernel_rfl) (by as_aux_lemma => kernel_rfl) (fun _ _ _ h => h) (Or.inl ⟨by rfl, ?_⟩) (by assumption) ?_
      rotate_left
      · intro w' hSw
        try dsimp only at hSw
        go_simp
        try with_reducible rfl
      try simp only [Act.put, List.setIfInBounds_toArray, List.set_cons_zero, List.set_cons_succ]
      refine wpAnyH_take (i := 25) (oi := { dst := some 60, op := Op.load 23 (Operand.tmp 3), type := 23, pos := "law.go:40", after := #[{ on := 24, ground := Ground.guard }], guard := some (24, true) }) (v := ?_) rfl (by as_aux_lemma => kernel_rfl) (by as_aux_lemma => kernel_rfl) (by as_aux_lemma => kernel_rfl) (fun _ _ _ h => h) (Or.inl ⟨by rfl, ?_⟩) (by assumption) ?_
      rotate_left
      · intro w' hSw
        try dsimp only at hSw
        go_simp
        try with_reducible rfl
      try simp only [Act.put, List.setIfInBounds_toArray, List.set_cons_zero, List.set_cons_succ]
      refine wpAnyH_take (i := 26) (oi := { dst := some 61, op := Op.load 30 (Operand.tmp 4), type := 30, pos := "law.go:40", after := #[{ on := 24, ground := Ground.guard }], guard := some (24, true) }) (v := ?_) rfl (by as_aux_lemma => kernel_rfl) (by as_aux_lemma => kernel_rfl) (by as_aux_lemma => kernel_rfl) (fun _ _ _ h => h) (Or.inl ⟨by rfl, ?_⟩) (by assumption) ?_
      rotate_left
      · intro w' hSw
        try dsimp only at hSw
        go_simp
        try with_reducible rfl
      try simp only [Act.put, List.setIfInBounds_toArray, List.set_cons_zero, List.set_cons_succ]
      refine wpAnyH_take (i := 27) (oi := { dst := some 62, op := Op.load 34 (Operand.tmp 5), type := 34, pos := "law.go:40", after := #[{ on := 24, ground := Ground.guard }], guard := some (24, true) }) (v := ?_) rfl (by as_aux_lemma => kernel_rfl) (by as_aux_lemma => kernel_rfl) (by as_aux_lemma => kernel_rfl) (fun _ _ _ h => h) (Or.inl ⟨by rfl, ?_⟩) (by assumption) ?_
      rotate_left
      · intro w' hSw
        try dsimp only at hSw
        go_simp
        try with_reducible rfl
      try simp only [Act.put, List.setIfInBounds_toArray, List.set_cons_zero, List.set_cons_succ]
      refine wpAnyH_take (i := 29) (oi := { dst := some 64, op := Op.load 23 (Operand.tmp 3), type := 23, pos := "law.go:40", after := #[{ on := 24, ground := Ground.guard }], guard := some (24, true) }) (v := ?_) rfl (by as_aux_lemma => kernel_rfl) (by as_aux_lemma => kernel_rfl) (by as_aux_lemma => kernel_rfl) (fun _ _ _ h => h) (Or.inl ⟨by rfl, ?_⟩) (by assumption) ?_
      rotate_left
      · intro w' hSw
        try dsimp only at hSw
        go_simp
        try with_reducible rfl
      try simp only [Act.put, List.setIfInBounds_toArray, List.set_cons_zero, List.set_cons_succ]
      refine wpAnyH_take (i := 30) (oi := { dst := some 65, op := Op.load 30 (Operand.tmp 4), type := 30, pos := "law.go:40", after := #[{ on := 24, ground := Ground.guard }], guard := some (24, true) }) (v := ?_) rfl (by as_aux_lemma => kernel_rfl) (by as_aux_lemma => kernel_rfl) (by as_aux_lemma => kernel_rfl) (fun _ _ _ h => h) (Or.inl ⟨by rfl, ?_⟩) (by assumption) ?_
      rotate_left
      · intro w' hSw
        try dsimp only at hSw
        go_simp
        try with_reducible rfl
      try simp only [Act.put, List.setIfInBounds_toArray, List.set_cons_zero, List.set_cons_succ]
      refine wpAnyH_take (i := 31) (oi := { dst := some 66, op := Op.load 34 (Operand.tmp 5), type := 34, pos := "law.go:40", after := #[{ on := 24, ground := Ground.guard }], guard := some (24, true) }) (v := ?_) rfl (by as_aux_lemma => kernel_rfl) (by as_aux_lemma => kernel_rfl) (by as_aux_lemma => kernel_rfl) (fun _ _ _ h => h) (Or.inl ⟨by rfl, ?_⟩) (by assumption) ?_
      rotate_left
      · intro w' hSw
        try dsimp only at hSw
        go_simp
        try with_reducible rfl
      try simp only [Act.put, List.setIfInBounds_toArray, List.set_cons_zero, List.set_cons_succ]
      refine wpAnyH_ready (rs := [28]) (by as_aux_lemma => kernel_rfl) (by simp) ?_
      refine AllReadyH.cons (o := { dst := some 63, op := Op.call { callee := Callee.value (Operand.func 18), args := #[Operand.tmp 60, Operand.tmp 61, Operand.tmp 62], argTypes := #[23, 30, 34] }, type := 30, pos := "law.go:40", after := #[{ on := 25, ground := Ground.data }, { on := 26, ground := Ground.data }, { on := 27, ground := Ground.data }, { on := 24, ground := Ground.chain }, { on := 24, ground := Ground.guard }], guard := some (24, true) }) rfl (fun Kx hK => ?_) AllReadyH.nil
      go_simp
      refine (lpush_eq (V.out.later K1005.out) (by omega) la sn ca cb cd ce seq tok at' dg xa xb xd xo xc xs HP).mono ?_
      rintro e z1006 ⟨u1, rfl, hU1, bz1006⟩
      have K1006 := Lib.hid (below2Z K1005.out bz1006)
      have D1006 := Lib.hid (heldB_up K1006.out D0.out)
      have U1 := Lib.hid hU1
      clear hU1
      clear bz1006
      go_wp2_with fail
      refine hK.out _ _ ?_ (fun hHeld2 => ?_)
      · exact D1006.out
      clear hK Kx hHeld
      have hHeld := hHeld2
      clear hHeld2
      try simp only [Act.put, List.setIfInBounds_toArray, List.set_cons_zero, List.set_cons_succ]
      refine wpAnyH_ready (rs := [32]) (by as_aux_lemma => kernel_rfl) (by simp) ?_
      refine AllReadyH.cons (o := { dst := some 67, op := Op.call { callee := Callee.value (Operand.func 19), args := #[Operand.tmp 64, Operand.tmp 65, Operand.tmp 66], argTypes := #[23, 30, 34] }, type := 30, pos := "law.go:40", after := #[{ on := 29, ground := Ground.data }, { on := 30, ground := Ground.data }, { on := 31, ground := Ground.data }, { on := 28, ground := Ground.chain }, { on := 24, ground := Ground.guard }], guard := some (24, true) }) rfl (fun Kx hK => ?_) AllReadyH.nil
      go_simp
      refine (rlpush_eq (V.out.later K1006.out) (by omega) la sn ca cb cd ce seq tok at' dg xa xb xd xo xc xs HP).mono ?_
      rintro e z1007 ⟨u2, rfl, hU2, bz1007⟩
      have K1007 := Lib.hid (below2Z K1006.out bz1007)
      have D1007 := Lib.hid (heldB_up K1007.out D0.out)
      replace U1 := Lib.hid (Chgs.later (U1.out) bz1007)
      have U2 := Lib.hid hU2
      clear hU2
      clear bz1007
      go_wp2_with fail
      refine hK.out _ _ ?_ (fun hHeld2 => ?_)
      · exact D1007.out
      clear hK Kx hHeld
      have hHeld := hHeld2
      clear hHeld2
      try simp only [Act.put, List.setIfInBounds_toArray, List.set_cons_zero, List.set_cons_succ]
      refine wpAnyH_ready (rs := [33]) (by as_aux_lemma => kernel_rfl) (by simp) ?_
      refine AllReadyH.cons (o := { dst := some 68, op := Op.call { callee := Callee.value (Operand.func 13), args := #[Operand.tmp 63, Operand.tmp 67], argTypes := #[30, 30] }, type := 4, pos := "law.go:40", after := #[{ on := 28, ground := Ground.data }, { on := 32, ground := Ground.data }, { on := 32, ground := Ground.chain }, { on := 24, ground := Ground.guard }], guard := some (24, true) }) rfl (fun Kx hK => ?_) AllReadyH.nil
      go_simp
      refine (rlsame_yes U1.out U2.out pl pn ps pt pa pd).mono ?_
      rintro e z1008 ⟨rfl, bz1008⟩
      have K1008 := Lib.hid (below2Z K1007.out bz1008)
      have D1008 := Lib.hid (heldB_up K1008.out D0.out)
      replace U1 := Lib.hid (Chgs.later (U1.out) bz1008)
      replace U2 := Lib.hid (Chgs.later (U2.out) bz1008)
      clear bz1008
      go_wp2_with fail
      refine hK.out _ _ ?_ (fun hHeld2 => ?_)
      · exact D1008.out
      clear hK Kx hHeld
      have hHeld := hHeld2
      clear hHeld2
      try simp only [Act.put, List.setIfInBounds_toArray, List.set_cons_zero, List.set_cons_succ]
      refine wpAnyH_take (i := 34) (oi := { dst := some 69, op := Op.pick (Operand.tmp 59) (Operand.tmp 68) (Operand.const (Value.bool false)), type := 4, pos := "law.go:40", after := #[{ on := 24, ground := Ground.data }, { on := 33, ground := Ground.data }], guard := none }) (v := ?_) rfl (by as_aux_lemma => kernel_rfl) (by as_aux_lemma => kernel_rfl) (by as_aux_lemma => kernel_rfl) (fun _ _ _ h => h) (Or.inl ⟨by rfl, ?_⟩) (by assumption) ?_
      rotate_left
      · intro w' hSw
        try dsimp only at hSw
        go_simp
        try with_reducible rfl
      try simp only [Act.put, List.setIfInBounds_toArray, List.set_cons_zero, List.set_cons_succ]
      refine wpAnyH_take (i := 35) (oi := { dst := some 70, op := Op.move (Operand.tmp 69), type := 4, pos := "law.go:40", after := #[{ on := 34, ground := Ground.data }, { on := 33, ground := Ground.chain }], guard := none }) (v := ?_) rfl (by as_aux_lemma => kernel_rfl) (by as_aux_lemma => kernel_rfl) (by as_aux_lemma => kernel_rfl) (fun _ _ _ h => h) (Or.inl ⟨by rfl, ?_⟩) (by assumption) ?_
      rotate_left
      · intro w' hSw
        try dsimp only at hSw
        go_simp
        try with_reducible rfl
      try simp only [Act.put, List.setIfInBounds_toArray, List.set_cons_zero, List.set_cons_succ]
      refine wpAnyH_take (i := 36) (oi := { dst := some 71, op := Op.load 30 (Operand.tmp 4), type := 30, pos := "law.go:40", after := #[{ on := 35, ground := Ground.guard }], guard := some (35, true) }) (v := ?_) rfl (by as_aux_lemma => kernel_rfl) (by as_aux_lemma => kernel_rfl) (by as_aux_lemma => kernel_rfl) (fun _ _ _ h => h) (Or.inl ⟨by rfl, ?_⟩) (by assumption) ?_
      rotate_left
      · intro w' hSw
        try dsimp only at hSw
        go_simp
        try with_reducible rfl
      try simp only [Act.put, List.setIfInBounds_toArray, List.set_cons_zero, List.set_cons_succ]
      refine wpAnyH_take (i := 38) (oi := { dst := some 73, op := Op.load 30 (Operand.tmp 4), type := 30, pos := "law.go:40", after := #[{ on := 35, ground := Ground.guard }], guard := some (35, true) }) (v := ?_) rfl (by as_aux_lemma => kernel_rfl) (by as_aux_lemma => kernel_rfl) (by as_aux_lemma => kernel_rfl) (fun _ _ _ h => h) (Or.inl ⟨by rfl, ?_⟩) (by assumption) ?_
      rotate_left
      · intro w' hSw
        try dsimp only at hSw
        go_simp
        try with_reducible rfl
      try simp only [Act.put, List.setIfInBounds_toArray, List.set_cons_zero, List.set_cons_succ]
      refine wpAnyH_ready (rs := [37]) (by as_aux_lemma => kernel_rfl) (by simp) ?_
      refine AllReadyH.cons (o := { dst := some 72, op := Op.call { callee := Callee.value (Operand.func 20), args := #[Operand.tmp 71], argTypes := #[30] }, type := 30, pos := "law.go:40", after := #[{ on := 36, ground := Ground.data }, { on := 35, ground := Ground.chain }, { on := 35, ground := Ground.guard }], guard := some (35, true) }) rfl (fun Kx hK => ?_) AllReadyH.nil
      go_simp
      refine (lask_any seq tok at' dg ao qn cap la sn _).mono ?_
      rintro e z1009 ⟨rfl, bz1009⟩
      have K1009 := Lib.hid (below2Z K1008.out bz1009)
      have D1009 := Lib.hid (heldB_up K1009.out D0.out)
      replace U1 := Lib.hid (Chgs.later (U1.out) bz1009)
      replace U2 := Lib.hid (Chgs.later (U2.out) bz1009)
      clear bz1009
      go_wp2_with fail
      refine hK.out _ _ ?_ (fun hHeld2 => ?_)
      · exact D1009.out
      clear hK Kx hHeld
      have hHeld := hHeld2
      clear hHeld2
      try simp only [Act.put, List.setIfInBounds_toArray, List.set_cons_zero, List.set_cons_succ]
      refine wpAnyH_ready (rs := [39]) (by as_aux_lemma => kernel_rfl) (by simp) ?_
      refine AllReadyH.cons (o := { dst := some 74, op := Op.call { callee := Callee.value (Operand.func 21), args := #[Operand.tmp 73], argTypes := #[30] }, type := 30, pos := "law.go:40", after := #[{ on := 38, ground := Ground.data }, { on := 37, ground := Ground.chain }, { on := 35, ground := Ground.guard }], guard := some (35, true) }) rfl (fun Kx hK => ?_) AllReadyH.nil
      go_simp
      refine (rlask_any seq tok at' dg ao qn cap la sn _).mono ?_
      rintro e z1010 ⟨rfl, bz1010⟩
      have K1010 := Lib.hid (below2Z K1009.out bz1010)
      have D1010 := Lib.hid (heldB_up K1010.out D0.out)
      replace U1 := Lib.hid (Chgs.later (U1.out) bz1010)
      replace U2 := Lib.hid (Chgs.later (U2.out) bz1010)
      clear bz1010
      go_wp2_with fail
      refine hK.out _ _ ?_ (fun hHeld2 => ?_)
      · exact D1010.out
      clear hK Kx hHeld
      have hHeld := hHeld2
      clear hHeld2
      try simp only [Act.put, List.setIfInBounds_toArray, List.set_cons_zero, List.set_cons_succ]
      refine wpAnyH_ready (rs := [40]) (by as_aux_lemma => kernel_rfl) (by simp) ?_
      refine AllReadyH.cons (o := { dst := some 75, op := Op.call { callee := Callee.value (Operand.func 13), args := #[Operand.tmp 72, Operand.tmp 74], argTypes := #[30, 30] }, type := 4, pos := "law.go:40", after := #[{ on := 37, ground := Ground.data }, { on := 39, ground := Ground.data }, { on := 39, ground := Ground.chain }, { on := 35, ground := Ground.guard }], guard := some (35, true) }) rfl (fun Kx hK => ?_) AllReadyH.nil
      go_simp
      refine (rlsame_yes (chgs_nil _) (chgs_nil _) false true seq tok at' dg).mono ?_
      rintro e z1011 ⟨rfl, bz1011⟩
      have K1011 := Lib.hid (below2Z K1010.out bz1011)
      have D1011 := Lib.hid (heldB_up K1011.out D0.out)
      replace U1 := Lib.hid (Chgs.later (U1.out) bz1011)
      replace U2 := Lib.hid (Chgs.later (U2.out) bz1011)
      clear bz1011
      go_wp2_with fail
      refine hK.out _ _ ?_ (fun hHeld2 => ?_)
      · exact D1011.out
      clear hK Kx hHeld
      have hHeld := hHeld2
      clear hHeld2
      try simp only [Act.put, List.setIfInBounds_toArray, List.set_cons_zero, List.set_cons_succ]
      refine wpAnyH_take (i := 41) (oi := { dst := some 76, op := Op.pick (Operand.tmp 70) (Operand.tmp 75) (Operand.const (Value.bool false)), type := 4, pos := "law.go:40", after := #[{ on := 35, ground := Ground.data }, { on := 40, ground := Ground.data }], guard := none }) (v := ?_) rfl (by as_aux_lemma => kernel_rfl) (by as_aux_lemma => kernel_rfl) (by as_aux_lemma => kernel_rfl) (fun _ _ _ h => h) (Or.inl ⟨by rfl, ?_⟩) (by assumption) ?_
      rotate_left
      · intro w' hSw
        try dsimp only at hSw
        go_simp
        try with_reducible rfl
      try simp only [Act.put, List.setIfInBounds_toArray, List.set_cons_zero, List.set_cons_succ]
      refine wpAnyH_take (i := 42) (oi := { dst := some 77, op := Op.move (Operand.tmp 76), type := 4, pos := "law.go:40", after := #[{ on := 41, ground := Ground.data }, { on := 40, ground := Ground.chain }], guard := none }) (v := ?_) rfl (by as_aux_lemma => kernel_rfl) (by as_aux_lemma => kernel_rfl) (by as_aux_lemma => kernel_rfl) (fun _ _ _ h => h) (Or.inl ⟨by rfl, ?_⟩) (by assumption) ?_
      rotate_left
      · intro w' hSw
        try dsimp only at hSw
        go_simp
        try with_reducible rfl
      try simp only [Act.put, List.setIfInBounds_toArray, List.set_cons_zero, List.set_cons_succ]
      refine wpAnyH_ready (rs := [43]) (by as_aux_lemma => kernel_rfl) (by simp) ?_
      refine AllReadyH.cons (o := { dst := some 78, op := Op.call { callee := Callee.value (Operand.func 10), args := #[], argTypes := #[] }, type := 4, pos := "law.go:40", after := #[{ on := 42, ground := Ground.chain }, { on := 42, ground := Ground.guard }], guard := some (42, true) }) rfl (fun Kx hK => ?_) AllReadyH.nil
      go_simp
      refine (live18 _).mono ?_
      rintro e z1012 ⟨rfl, bz1012⟩
      have K1012 := Lib.hid (below2Z K1011.out bz1012)
      have D1012 := Lib.hid (heldB_up K1012.out D0.out)
      replace U1 := Lib.hid (Chgs.later (U1.out) bz1012)
      replace U2 := Lib.hid (Chgs.later (U2.out) bz1012)
      clear bz1012
      go_wp2_with fail
      refine hK.out _ _ ?_ (fun hHeld2 => ?_)
      · exact D1012.out
      clear hK Kx hHeld
      have hHeld := hHeld2
      clear hHeld2
      try simp only [Act.put, List.setIfInBounds_toArray, List.set_cons_zero, List.set_cons_succ]
      refine wpAnyH_take (i := 44) (oi := { dst := some 79, op := Op.pick (Operand.tmp 77) (Operand.tmp 78) (Operand.const (Value.bool false)), type := 4, pos := "law.go:40", after := #[{ on := 42, ground := Ground.data }, { on := 43, ground := Ground.data }], guard := none }) (v := ?_) rfl (by as_aux_lemma => kernel_rfl) (by as_aux_lemma => kernel_rfl) (by as_aux_lemma => kernel_rfl) (fun _ _ _ h => h) (Or.inl ⟨by rfl, ?_⟩) (by assumption) ?_
      rotate_left
      · intro w' hSw
        try dsimp only at hSw
        go_simp
        try with_reducible rfl
      try simp only [Act.put, List.setIfInBounds_toArray, List.set_cons_zero, List.set_cons_succ]
      refine wpAnyH_take (i := 45) (oi := { dst := some 6, op := Op.assign (Operand.tmp 79), type := 4, pos := "law.go:40", after := #[{ on := 44, ground := Ground.data }, { on := 43, ground := Ground.chain }, { on := 0, ground := Ground.phase }, { on := 1, ground := Ground.phase }, { on := 2, ground := Ground.phase }, { on := 3, ground := Ground.phase }, { on := 4, ground := Ground.phase }, { on := 5, ground := Ground.phase }, { on := 6, ground := Ground.phase }, { on := 7, ground := Ground.phase }, { on := 8, ground := Ground.phase }, { on := 9, ground := Ground.phase }, { on := 10, ground := Ground.phase }, { on := 11, ground := Ground.phase }, { on := 12, ground := Ground.phase }, { on := 13, ground := Ground.phase }, { on := 14, ground := Ground.phase }, { on := 15, ground := Ground.phase }, { on := 16, ground := Ground.phase }, { on := 17, ground := Ground.phase }, { on := 18, ground := Ground.phase }, { on := 19, ground := Ground.phase }, { on := 20, ground := Ground.phase }, { on := 21, ground := Ground.phase }, { on := 22, ground := Ground.phase }, { on := 23, ground := Ground.phase }, { on := 24, ground := Ground.phase }, { on := 25, ground := Ground.phase }, { on := 26, ground := Ground.phase }, { on := 27, ground := Ground.phase }, { on := 28, ground := Ground.phase }, { on := 29, ground := Ground.phase }, { on := 30, ground := Ground.phase }, { on := 31, ground := Ground.phase }, { on := 32, ground := Ground.phase }, { on := 33, ground := Ground.phase }, { on := 34, ground := Ground.phase }, { on := 35, ground := Ground.phase }, { on := 36, ground := Ground.phase }, { on := 37, ground := Ground.phase }, { on := 38, ground := Ground.phase }, { on := 39, ground := Ground.phase }, { on := 40, ground := Ground.phase }, { on := 41, ground := Ground.phase }, { on := 42, ground := Ground.phase }, { on := 43, ground := Ground.phase }, { on := 44, ground := Ground.phase }], guard := none }) (v := ?_) rfl (by as_aux_lemma => kernel_rfl) (by as_aux_lemma => kernel_rfl) (by as_aux_lemma => kernel_rfl) (fun _ _ _ h => h) (Or.inl ⟨by rfl, ?_⟩) (by assumption) ?_
      rotate_left
      · intro w' hSw
        try dsimp only at hSw
        go_simp
        try with_reducible rfl
      try simp only [Act.put, List.setIfInBounds_toArray, List.set_cons_zero, List.set_cons_succ]
      refine wpAnyH_done (by kernel_rfl) ?_ _
      replace HB := Lib.hid (below2Z HB.out (K1012.out))
      go_wp2_with fail
      go_ret
      exact ⟨rfl, HB.out⟩

theorem walkLinkTells {w : World} (c : Cfg) (_ : CfgFit c) (seq : Int) (v : Value) (la : Bool) (tok at' : Int) (sn : Bool) (dg : Int) (_ : (Lit.int .i64 seq).wf = true) (hv : ∃ t : List Chg, Chgs w v t) (_ : (Lit.int .i64 tok).wf = true) (_ : (Lit.int .i64 at').wf = true) (_ : (Lit.int .i64 dg).wf = true) (x : Chg) :
    Calls Tryz.prog 3 #[.agg #[.int .i64 c.room, .int .i64 c.burst, .int .i64 c.rate, .int .i64 c.per], .agg #[.int .i64 seq, v, .bool la, .int .i64 tok, .int .i64 at', .bool sn, .int .i64 dg], .agg #[.string ⟨x.c.toArray⟩, .bool x.on, .int .i64 x.v.sh, .int .i64 x.v.pr, .int .i64 x.v.si, .string ⟨x.v.st.toArray⟩]] w fun e w' => e = .returned (.bool true) ∧ Below w.heap.size w w' := by
  obtain ⟨ql, hq⟩ := hv
  exact ltl hq c.room c.burst c.rate c.per seq tok at' dg la sn x.c x.v.st x.on x.v.sh x.v.pr x.v.si

end Go.Proofs.YtndicdomdndjaaaGreat

end

section

/-
  THE FRAME OF THE PROOF OF LinkTells: for every input the law returns true, and each argument reads behind the call as it read before. No condition.
-/
namespace Go.Proofs.YtndicdomdndjaaaGreat.linkTells
open Go.ChangeShapes Go.WideShapes Go.ChangeAt Go.RowKit
open Go.ChangeMaps (open_string shut_string)
set_option linter.unusedVariables false

theorem own : ownKnob Tryz.prog.godebug = none := by kernel_rfl
theorem laidOut : laidOutB Tryz.prog = true := by kernel_rfl

set_option maxRecDepth 100000 in
theorem lifted (os : Os) (started : os.Started) (H : Type) (enc : TypeId × Value → H) :
    ReturnsInHanded {} Tryz.checked os 3 .any (Rows.linkTellsSpec.pre6 enc Tryz.prog Tryz.f3 Rows.linkTellsRow.domain false) (Rows.linkTellsSpec.post enc Tryz.prog Tryz.f3 false true false false) := by
  refine returnsInHanded_of_change (C := Tryz.checked) own started (by kernel_rfl) Tryz.func3
    (ChangeSpec.witness6 (enc := enc) (C := Tryz.checked) false ⟨#[], #[.agg #[.int .i64 0, .int .i64 0, .int .i64 0, .int .i64 0], .agg #[.int .i64 0, .slice none 0 0, .bool false, .int .i64 0, .int .i64 0, .bool false, .int .i64 0], .agg #[.string ByteArray.empty, .bool false, .int .i64 0, .int .i64 0, .int .i64 0, .string ByteArray.empty]], []⟩ 8 (by kernel_rfl) (by kernel_rfl) (by kernel_rfl) (by kernel_rfl)) ?_
  intro W base args ds gs before hval0 hW hcnd _
  have hval : ∀ (j : Nat) t v, Tryz.f3.params[j]? = some t → args[j]? = some v → Value.okWide Tryz.prog W .any base t v := hval0
  have hW' := hW
  obtain ⟨p, q, hA0, hV, rfl, hfz, hnd⟩ := hW
  have hA : DataW.TrodAll enc Tryz.prog W 0 (fun _ => true) true Tryz.f3.params.toList args.toList ds p := hA0
  rw [Tryz.params3] at hA hval
  obtain ⟨v0, vs0, d0, ds0, p0, q0, hargs, rfl, rfl, h0, r0⟩ := trodAll_cons hA
  obtain ⟨v1, vs1, d1, ds1, p1, q1, rfl, rfl, rfl, h1, r1⟩ := trodAll_cons r0
  obtain ⟨v2, vs2, d2, ds2, p2, q2, rfl, rfl, rfl, h2, r2⟩ := trodAll_cons r1
  obtain ⟨rfl, rfl, rfl⟩ := trodAll_nil r2
  obtain rfl : args = #[v0, v1, v2] := by cases args; simp_all
  obtain ⟨rfl, rfl⟩ := trodVars_none hV
  have k0 := h0
  have lt0 : ∀ x ∈ p0, x.block < W.heap.size := by obtain ⟨m, hm⟩ := k0; exact DataW.trod_lt m _ _ _ hm
  obtain ⟨a0, rfl, w0⟩ := open_cfg (hval 0 23 v0 rfl rfl) h0
  have k1 := h1
  have lt1 : ∀ x ∈ p1, x.block < W.heap.size := by obtain ⟨m, hm⟩ := k1; exact DataW.trod_lt m _ _ _ hm
  obtain ⟨g1_0, g1_1, g1_2, g1_3, g1_4, g1_5, g1_6, rfl, y1_0, y1_1, y1_2, y1_3, y1_4⟩ := open_lnk (hval 1 30 v1 rfl rfl) h1
  have k2 := h2
  have lt2 : ∀ x ∈ p2, x.block < W.heap.size := by obtain ⟨m, hm⟩ := k2; exact DataW.trod_lt m _ _ _ hm
  obtain ⟨a2, rfl, _, _⟩ := open_chg (hval 2 34 v2 rfl rfl) h2
  clear hA0 hval0
  refine (walkLinkTells (w := W) a0 w0 g1_0 g1_1 g1_2 g1_3 g1_4 g1_5 g1_6 y1_0 y1_1 y1_2 y1_3 y1_4 a2).mono fun e W' ⟨he, bel⟩ => ?_
  subst he
  exact ⟨_, rfl, _, _, _, [], _, [], hW', trodAll_mk1 (shut_bool Tryz.underlying4 _), (trodAll_cons_mk (Below.trod laidOut (by kernel_rfl) (of_decide_eq_true (by kernel_rfl)) k0 bel lt0) (trodAll_cons_mk (Below.trod laidOut (by kernel_rfl) (of_decide_eq_true (by kernel_rfl)) k1 bel lt1) (trodAll_cons_mk (Below.trod laidOut (by kernel_rfl) (of_decide_eq_true (by kernel_rfl)) k2 bel lt2) trodAll_mk0))), rfl, bel.frame _, fun h => by cases h⟩

theorem over : Rows.linkTellsRow.holds Tryz.pinned (OpenSpec.ofChange Rows.linkTellsSpec) :=
  OpenClaim.holds_of_wide 3 Tryz.f3 rfl rfl rfl rfl rfl rfl rfl ⟨rfl, rfl, rfl, rfl, rfl⟩ rfl rfl rfl rfl rfl (by kernel_rfl) Tryz.func3 (by kernel_rfl)
    (of_decide_eq_true (by kernel_rfl)) (by unfold Func.isWrapper; first | (rw [if_pos (by decide +kernel)]; kernel_rfl) | (rw [if_neg (by decide +kernel)]; exact ⟨rfl, rfl⟩))
    (fun os started H enc _ => lifted os started H enc)

/-- THE STATEMENT. -/
theorem proved : Rows.LinkTellsSaid := over
#print axioms proved
end Go.Proofs.YtndicdomdndjaaaGreat.linkTells

end
