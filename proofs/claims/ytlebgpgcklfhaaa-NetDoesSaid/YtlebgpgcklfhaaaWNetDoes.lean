/-
  THE WALK OF NetDoes.
-/
import Derived.Test.YtlebgpgcklfhaaaNetW
namespace Go.Proofs.Ytlebgpgcklfhaaa
open Go.RowKit

set_option maxHeartbeats 3200000 in
set_option maxRecDepth 1000000 in
theorem nd {w : World} {v : Value} {ls : List (List UInt8)} (h : Texts w v ls) (kk ek : Int) (eu eo : List UInt8) (ei ea eb ed : Int) (es ho : List UInt8) (ii mm : Int) (hmm : mm ≤ 9223372036854775807) (by_ : List UInt8) (at_ : Int) :
    Calls Try.prog 3 #[v, .agg #[.int .i64 kk, .int .i64 ek, .string ⟨eu.toArray⟩, .string ⟨eo.toArray⟩, .int .i64 ei, .int .i64 ea, .int .i64 eb, .int .i64 ed, .string ⟨es.toArray⟩, .string ⟨ho.toArray⟩, .int .i64 ii, .int .i64 mm, .string ⟨by_.toArray⟩], .int .i64 at_] w fun e w' => e = .returned (.bool true) ∧ Below w.heap.size w w' := by
  have b0 := bl_newZ w (.cells #[.int .i64 kk, .int .i64 ek, .string ⟨eu.toArray⟩, .string ⟨eo.toArray⟩, .int .i64 ei, .int .i64 ea, .int .i64 eb, .int .i64 ed, .string ⟨es.toArray⟩, .string ⟨ho.toArray⟩, .int .i64 ii, .int .i64 mm, .string ⟨by_.toArray⟩] 28)
  have HB := Lib.hid b0
  have H := Lib.hid (h.later b0)
  have SB := newQ w (.cells #[.int .i64 kk, .int .i64 ek, .string ⟨eu.toArray⟩, .string ⟨eo.toArray⟩, .int .i64 ei, .int .i64 ea, .int .i64 eb, .int .i64 ed, .string ⟨es.toArray⟩, .string ⟨ho.toArray⟩, .int .i64 ii, .int .i64 mm, .string ⟨by_.toArray⟩] 28)
  replace SB := Lib.hid SB
  clear b0
  clear h
  obtain ⟨f1, hf1⟩ : ∃ r, fewN 510 100 ls = r := ⟨_, rfl⟩
  have F1 := Lib.hid hf1
  clear hf1
  obtain ⟨⟨SBc0, SBc1, SBc2, SBc3, SBc4, SBc5, SBc6, SBc7, SBc8, SBc9, SBc10, SBc11, SBc12⟩, ⟨SBf0, SBf1, SBf2, SBf3, SBf4, SBf5, SBf6, SBf7, SBf8, SBf9, SBf10, SBf11, SBf12⟩⟩ := blk13 SB.out
  go_enter Try.func3, Try.ntmps3
  go_wp2_with fail
  clear SBc0 SBc1 SBc2 SBc3 SBc4 SBc5 SBc6 SBc7 SBc8 SBc9 SBc10 SBc11 SBc12 SBf0 SBf1 SBf2 SBf3 SBf4 SBf5 SBf6 SBf7 SBf8 SBf9 SBf10 SBf11 SBf12
  refine (fewN_eq H.out 510 100 F1).mono ?_
  rintro e w2 ⟨rfl, b2⟩
  replace SB := Lib.hid (upQ SB.out b2)
  replace H := Lib.hid (H.out.later b2)
  replace HB := Lib.hid (below2Z HB.out b2)
  clear b2
  cases f1 with
  | false =>
    go_wp2_with fail
    refine (live22 _).mono ?_
    rintro e w101 ⟨rfl, b101⟩
    replace HB := Lib.hid (below2Z HB.out b101)
    clear b101
    go_wp2_with fail
    go_ret
    exact ⟨rfl, HB.out⟩
  | true =>
    obtain ⟨hl, hx⟩ := few_len F1
    have HX : Hid (∀ t ∈ ls, t.length ≤ 1000000) := Lib.hid (fun t ht => Nat.le_trans (hx t ht) (by decide))
    clear hx
    obtain ⟨r, t, e, hr⟩ : ∃ r t e, ntAct ls kk ii mm = (r, t, e) := ⟨_, _, _, rfl⟩
    obtain ⟨q, f, hq⟩ : ∃ q f, ntCor ls ii at_ mm = (q, f) := ⟨_, _, rfl⟩
    have hrl := ntAct_len ls kk ii mm
    have hql := ntCor_len ls ii at_ mm
    rw [hr] at hrl
    rw [hq] at hql
    simp only at hrl hql
    replace hrl : Hid (r.length ≤ 4294967296) := Lib.hid (by omega)
    replace hql : Hid (q.length ≤ 4294967296) := Lib.hid (by omega)
    have HR := Lib.hid hr
    have HQ := Lib.hid hq
    clear hr hq
    obtain ⟨⟨SBc0, SBc1, SBc2, SBc3, SBc4, SBc5, SBc6, SBc7, SBc8, SBc9, SBc10, SBc11, SBc12⟩, ⟨SBf0, SBf1, SBf2, SBf3, SBf4, SBf5, SBf6, SBf7, SBf8, SBf9, SBf10, SBf11, SBf12⟩⟩ := blk13 SB.out
    go_wp2_with fail
    clear SBc0 SBc1 SBc2 SBc3 SBc4 SBc5 SBc6 SBc7 SBc8 SBc9 SBc10 SBc11 SBc12 SBf0 SBf1 SBf2 SBf3 SBf4 SBf5 SBf6 SBf7 SBf8 SBf9 SBf10 SBf11 SBf12
    refine (nact_any H.out (by omega) HX.out kk ek eu eo ei ea eb ed es ho ii mm hmm by_ HR).mono ?_
    rintro e w3 ⟨uU1, rfl, huU1, b3⟩
    replace SB := Lib.hid (upQ SB.out b3)
    replace H := Lib.hid (H.out.later b3)
    replace HB := Lib.hid (below2Z HB.out b3)
    have U1 := Lib.hid huU1
    clear huU1
    clear b3
    obtain ⟨⟨SBc0, SBc1, SBc2, SBc3, SBc4, SBc5, SBc6, SBc7, SBc8, SBc9, SBc10, SBc11, SBc12⟩, ⟨SBf0, SBf1, SBf2, SBf3, SBf4, SBf5, SBf6, SBf7, SBf8, SBf9, SBf10, SBf11, SBf12⟩⟩ := blk13 SB.out
    go_wp2_with fail
    clear SBc0 SBc1 SBc2 SBc3 SBc4 SBc5 SBc6 SBc7 SBc8 SBc9 SBc10 SBc11 SBc12 SBf0 SBf1 SBf2 SBf3 SBf4 SBf5 SBf6 SBf7 SBf8 SBf9 SBf10 SBf11 SBf12
    refine (nract_any H.out (by omega) HX.out kk ek eu eo ei ea eb ed es ho ii mm hmm by_ HR).mono ?_
    rintro e w4 ⟨uU2, rfl, huU2, b4⟩
    replace SB := Lib.hid (upQ SB.out b4)
    replace H := Lib.hid (H.out.later b4)
    replace U1 := Lib.hid (U1.out.later b4)
    replace HB := Lib.hid (below2Z HB.out b4)
    have U2 := Lib.hid huU2
    clear huU2
    clear b4
    obtain ⟨⟨SBc0, SBc1, SBc2, SBc3, SBc4, SBc5, SBc6, SBc7, SBc8, SBc9, SBc10, SBc11, SBc12⟩, ⟨SBf0, SBf1, SBf2, SBf3, SBf4, SBf5, SBf6, SBf7, SBf8, SBf9, SBf10, SBf11, SBf12⟩⟩ := blk13 SB.out
    go_wp2_with fail
    clear SBc0 SBc1 SBc2 SBc3 SBc4 SBc5 SBc6 SBc7 SBc8 SBc9 SBc10 SBc11 SBc12 SBf0 SBf1 SBf2 SBf3 SBf4 SBf5 SBf6 SBf7 SBf8 SBf9 SBf10 SBf11 SBf12
    refine (ncor_any H.out (by omega) HX.out ii at_ mm HQ).mono ?_
    rintro e w5 ⟨uU3, rfl, huU3, b5⟩
    replace SB := Lib.hid (upQ SB.out b5)
    replace H := Lib.hid (H.out.later b5)
    replace U1 := Lib.hid (U1.out.later b5)
    replace U2 := Lib.hid (U2.out.later b5)
    replace HB := Lib.hid (below2Z HB.out b5)
    have U3 := Lib.hid huU3
    clear huU3
    clear b5
    obtain ⟨⟨SBc0, SBc1, SBc2, SBc3, SBc4, SBc5, SBc6, SBc7, SBc8, SBc9, SBc10, SBc11, SBc12⟩, ⟨SBf0, SBf1, SBf2, SBf3, SBf4, SBf5, SBf6, SBf7, SBf8, SBf9, SBf10, SBf11, SBf12⟩⟩ := blk13 SB.out
    go_wp2_with fail
    clear SBc0 SBc1 SBc2 SBc3 SBc4 SBc5 SBc6 SBc7 SBc8 SBc9 SBc10 SBc11 SBc12 SBf0 SBf1 SBf2 SBf3 SBf4 SBf5 SBf6 SBf7 SBf8 SBf9 SBf10 SBf11 SBf12
    refine (nrcor_any H.out (by omega) HX.out ii at_ mm HQ).mono ?_
    rintro e w6 ⟨uU4, rfl, huU4, b6⟩
    replace SB := Lib.hid (upQ SB.out b6)
    replace H := Lib.hid (H.out.later b6)
    replace U1 := Lib.hid (U1.out.later b6)
    replace U2 := Lib.hid (U2.out.later b6)
    replace U3 := Lib.hid (U3.out.later b6)
    replace HB := Lib.hid (below2Z HB.out b6)
    have U4 := Lib.hid huU4
    clear huU4
    clear b6
    go_wp2_with fail
    refine (same_yes U1.out U2.out hrl.out).mono ?_
    rintro e w7 ⟨rfl, b7⟩
    replace SB := Lib.hid (upQ SB.out b7)
    replace H := Lib.hid (H.out.later b7)
    replace U1 := Lib.hid (U1.out.later b7)
    replace U2 := Lib.hid (U2.out.later b7)
    replace U3 := Lib.hid (U3.out.later b7)
    replace U4 := Lib.hid (U4.out.later b7)
    replace HB := Lib.hid (below2Z HB.out b7)
    clear b7
    go_wp2_with fail
    refine (same_yes U3.out U4.out hql.out).mono ?_
    rintro e w8 ⟨rfl, b8⟩
    replace SB := Lib.hid (upQ SB.out b8)
    replace H := Lib.hid (H.out.later b8)
    replace U1 := Lib.hid (U1.out.later b8)
    replace U2 := Lib.hid (U2.out.later b8)
    replace U3 := Lib.hid (U3.out.later b8)
    replace U4 := Lib.hid (U4.out.later b8)
    replace HB := Lib.hid (below2Z HB.out b8)
    clear b8
    go_wp2_with fail
    refine (live22 _).mono ?_
    rintro e w9 ⟨rfl, b9⟩
    replace SB := Lib.hid (upQ SB.out b9)
    replace H := Lib.hid (H.out.later b9)
    replace U1 := Lib.hid (U1.out.later b9)
    replace U2 := Lib.hid (U2.out.later b9)
    replace U3 := Lib.hid (U3.out.later b9)
    replace U4 := Lib.hid (U4.out.later b9)
    replace HB := Lib.hid (below2Z HB.out b9)
    clear b9
    go_wp2_with fail
    go_ret
    exact ⟨rfl, HB.out⟩

theorem walkNetDoes {w : World} (a : Option Addr) (len cap : Nat) (zs : List ByteArray) (h : IsStrs w a len cap zs) (kk ek : Int) (eu eo : List UInt8) (ei ea eb ed : Int) (es ho : List UInt8) (ii mm : Int) (by_ : List UInt8)
    (_ : (Lit.int .i64 kk).wf = true) (_ : (Lit.int .i64 ek).wf = true) (_ : (Lit.int .i64 ei).wf = true) (_ : (Lit.int .i64 ea).wf = true) (_ : (Lit.int .i64 eb).wf = true) (_ : (Lit.int .i64 ed).wf = true) (_ : (Lit.int .i64 ii).wf = true) (hm : (Lit.int .i64 mm).wf = true) (at_ : Int) (_ : (Lit.int .i64 at_).wf = true) :
    Calls Try.prog 3 #[.slice a len cap, .agg #[.int .i64 kk, .int .i64 ek, .string ⟨eu.toArray⟩, .string ⟨eo.toArray⟩, .int .i64 ei, .int .i64 ea, .int .i64 eb, .int .i64 ed, .string ⟨es.toArray⟩, .string ⟨ho.toArray⟩, .int .i64 ii, .int .i64 mm, .string ⟨by_.toArray⟩], .int .i64 at_] w fun e w' => e = .returned (.bool true) ∧ Below w.heap.size w w' := by
  obtain ⟨ls, h1, _, _⟩ := texts_of_strs h
  have hb := bounds_i64 hm
  exact nd h1 kk ek eu eo ei ea eb ed es ho ii mm (by omega) by_ at_

end Go.Proofs.Ytlebgpgcklfhaaa
