/-
  THE WALK OF NetMoves.
-/
import Derived.Test.YtlebgpgcklfhaaaNetW
namespace Go.Proofs.Ytlebgpgcklfhaaa
open Go.RowKit

set_option maxHeartbeats 3200000 in
set_option maxRecDepth 1000000 in
theorem nm {w : World} {v u : Value} {ls ms : List (List UInt8)} (h : Texts w v ls) (k : Texts w u ms) (i : Int) :
    Calls Try.prog 4 #[v, u, .int .i64 i] w fun e w' => e = .returned (.bool true) ∧ Below w.heap.size w w' := by
  have HB := Lib.hid (Below.refl w.heap.size w)
  have H := Lib.hid h
  have K := Lib.hid k
  clear h k
  obtain ⟨f1, hf1⟩ : ∃ r, fewN 30 100 ls = r := ⟨_, rfl⟩
  obtain ⟨f2, hf2⟩ : ∃ r, fewN 30 100 ms = r := ⟨_, rfl⟩
  have F1 := Lib.hid hf1
  have F2 := Lib.hid hf2
  clear hf1 hf2
  go_enter Try.func4, Try.ntmps4
  go_wp2_with fail
  refine (fewN_eq H.out 30 100 F1).mono ?_
  rintro e w1 ⟨rfl, b1⟩
  replace H := Lib.hid (H.out.later b1)
  replace K := Lib.hid (K.out.later b1)
  replace HB := Lib.hid (below2Z HB.out b1)
  clear b1
  cases f1 with
  | false =>
    go_wp2_with fail
    refine (live22 _).mono ?_
    rintro e w102 ⟨rfl, b102⟩
    replace HB := Lib.hid (below2Z HB.out b102)
    clear b102
    go_wp2_with fail
    go_ret
    exact ⟨rfl, HB.out⟩
  | true =>
    go_wp2_with fail
    refine (fewN_eq K.out 30 100 F2).mono ?_
    rintro e w2 ⟨rfl, b2⟩
    replace H := Lib.hid (H.out.later b2)
    replace K := Lib.hid (K.out.later b2)
    replace HB := Lib.hid (below2Z HB.out b2)
    clear b2
    cases f2 with
    | false =>
      go_wp2_with fail
      refine (live22 _).mono ?_
      rintro e w103 ⟨rfl, b103⟩
      replace HB := Lib.hid (below2Z HB.out b103)
      clear b103
      go_wp2_with fail
      go_ret
      exact ⟨rfl, HB.out⟩
    | true =>
      obtain ⟨hl, _⟩ := few_len F1
      obtain ⟨hm, _⟩ := few_len F2
      obtain ⟨t, r, e, hr⟩ : ∃ t r e, ntTake ls i = (t, r, e) := ⟨_, _, _, rfl⟩
      obtain ⟨q, f, hq⟩ : ∃ q f, ntTwice ls i = (q, f) := ⟨_, _, rfl⟩
      have hrl := ntTake_len ls i
      have hql := ntTwice_len ls i
      rw [hr] at hrl
      rw [hq] at hql
      simp only at hrl hql
      replace hrl : Hid (r.length ≤ 4294967296) := Lib.hid (by omega)
      replace hql : Hid (q.length ≤ 4294967296) := Lib.hid (by omega)
      have hsl : Hid ((ls ++ ms).length ≤ 4294967296) := Lib.hid (by rw [List.length_append]; omega)
      have HR := Lib.hid hr
      have HQ := Lib.hid hq
      clear hr hq
      go_wp2_with fail
      refine (ntake_any H.out (by omega) i HR).mono ?_
      rintro e w3 ⟨uU1, rfl, huU1, b3⟩
      replace H := Lib.hid (H.out.later b3)
      replace K := Lib.hid (K.out.later b3)
      replace HB := Lib.hid (below2Z HB.out b3)
      have U1 := Lib.hid huU1
      clear huU1
      clear b3
      go_wp2_with fail
      refine (nrtake_any H.out (by omega) i HR).mono ?_
      rintro e w4 ⟨uU2, rfl, huU2, b4⟩
      replace H := Lib.hid (H.out.later b4)
      replace K := Lib.hid (K.out.later b4)
      replace U1 := Lib.hid (U1.out.later b4)
      replace HB := Lib.hid (below2Z HB.out b4)
      have U2 := Lib.hid huU2
      clear huU2
      clear b4
      go_wp2_with fail
      refine (ndrop_any H.out (by omega) i HR).mono ?_
      rintro e w5 ⟨uU3, rfl, huU3, b5⟩
      replace H := Lib.hid (H.out.later b5)
      replace K := Lib.hid (K.out.later b5)
      replace U1 := Lib.hid (U1.out.later b5)
      replace U2 := Lib.hid (U2.out.later b5)
      replace HB := Lib.hid (below2Z HB.out b5)
      have U3 := Lib.hid huU3
      clear huU3
      clear b5
      go_wp2_with fail
      refine (nrdrop_any H.out (by omega) i HR).mono ?_
      rintro e w6 ⟨uU4, rfl, huU4, b6⟩
      replace H := Lib.hid (H.out.later b6)
      replace K := Lib.hid (K.out.later b6)
      replace U1 := Lib.hid (U1.out.later b6)
      replace U2 := Lib.hid (U2.out.later b6)
      replace U3 := Lib.hid (U3.out.later b6)
      replace HB := Lib.hid (below2Z HB.out b6)
      have U4 := Lib.hid huU4
      clear huU4
      clear b6
      go_wp2_with fail
      refine (ntwice_any H.out i HQ).mono ?_
      rintro e w7 ⟨uU5, rfl, huU5, b7⟩
      replace H := Lib.hid (H.out.later b7)
      replace K := Lib.hid (K.out.later b7)
      replace U1 := Lib.hid (U1.out.later b7)
      replace U2 := Lib.hid (U2.out.later b7)
      replace U3 := Lib.hid (U3.out.later b7)
      replace U4 := Lib.hid (U4.out.later b7)
      replace HB := Lib.hid (below2Z HB.out b7)
      have U5 := Lib.hid huU5
      clear huU5
      clear b7
      go_wp2_with fail
      refine (nrtwice_any H.out i HQ).mono ?_
      rintro e w8 ⟨uU6, rfl, huU6, b8⟩
      replace H := Lib.hid (H.out.later b8)
      replace K := Lib.hid (K.out.later b8)
      replace U1 := Lib.hid (U1.out.later b8)
      replace U2 := Lib.hid (U2.out.later b8)
      replace U3 := Lib.hid (U3.out.later b8)
      replace U4 := Lib.hid (U4.out.later b8)
      replace U5 := Lib.hid (U5.out.later b8)
      replace HB := Lib.hid (below2Z HB.out b8)
      have U6 := Lib.hid huU6
      clear huU6
      clear b8
      go_wp2_with fail
      refine (same_yes U1.out U2.out hrl.out).mono ?_
      rintro e w9 ⟨rfl, b9⟩
      replace H := Lib.hid (H.out.later b9)
      replace K := Lib.hid (K.out.later b9)
      replace U1 := Lib.hid (U1.out.later b9)
      replace U2 := Lib.hid (U2.out.later b9)
      replace U3 := Lib.hid (U3.out.later b9)
      replace U4 := Lib.hid (U4.out.later b9)
      replace U5 := Lib.hid (U5.out.later b9)
      replace U6 := Lib.hid (U6.out.later b9)
      replace HB := Lib.hid (below2Z HB.out b9)
      clear b9
      go_wp2_with fail
      refine (same_yes U3.out U4.out hrl.out).mono ?_
      rintro e w10 ⟨rfl, b10⟩
      replace H := Lib.hid (H.out.later b10)
      replace K := Lib.hid (K.out.later b10)
      replace U1 := Lib.hid (U1.out.later b10)
      replace U2 := Lib.hid (U2.out.later b10)
      replace U3 := Lib.hid (U3.out.later b10)
      replace U4 := Lib.hid (U4.out.later b10)
      replace U5 := Lib.hid (U5.out.later b10)
      replace U6 := Lib.hid (U6.out.later b10)
      replace HB := Lib.hid (below2Z HB.out b10)
      clear b10
      go_wp2_with fail
      refine (same_yes U5.out U6.out hql.out).mono ?_
      rintro e w11 ⟨rfl, b11⟩
      replace H := Lib.hid (H.out.later b11)
      replace K := Lib.hid (K.out.later b11)
      replace U1 := Lib.hid (U1.out.later b11)
      replace U2 := Lib.hid (U2.out.later b11)
      replace U3 := Lib.hid (U3.out.later b11)
      replace U4 := Lib.hid (U4.out.later b11)
      replace U5 := Lib.hid (U5.out.later b11)
      replace U6 := Lib.hid (U6.out.later b11)
      replace HB := Lib.hid (below2Z HB.out b11)
      clear b11
      go_wp2_with fail
      refine (nsend_any H.out K.out (by omega)).mono ?_
      rintro e w12 ⟨uU7, rfl, huU7, b12⟩
      replace H := Lib.hid (H.out.later b12)
      replace K := Lib.hid (K.out.later b12)
      replace U1 := Lib.hid (U1.out.later b12)
      replace U2 := Lib.hid (U2.out.later b12)
      replace U3 := Lib.hid (U3.out.later b12)
      replace U4 := Lib.hid (U4.out.later b12)
      replace U5 := Lib.hid (U5.out.later b12)
      replace U6 := Lib.hid (U6.out.later b12)
      replace HB := Lib.hid (below2Z HB.out b12)
      have U7 := Lib.hid huU7
      clear huU7
      clear b12
      go_wp2_with fail
      refine (nrsend_any H.out K.out (by omega)).mono ?_
      rintro e w13 ⟨uU8, rfl, huU8, b13⟩
      replace H := Lib.hid (H.out.later b13)
      replace K := Lib.hid (K.out.later b13)
      replace U1 := Lib.hid (U1.out.later b13)
      replace U2 := Lib.hid (U2.out.later b13)
      replace U3 := Lib.hid (U3.out.later b13)
      replace U4 := Lib.hid (U4.out.later b13)
      replace U5 := Lib.hid (U5.out.later b13)
      replace U6 := Lib.hid (U6.out.later b13)
      replace U7 := Lib.hid (U7.out.later b13)
      replace HB := Lib.hid (below2Z HB.out b13)
      have U8 := Lib.hid huU8
      clear huU8
      clear b13
      go_wp2_with fail
      refine (same_yes U7.out U8.out hsl.out).mono ?_
      rintro e w14 ⟨rfl, b14⟩
      replace H := Lib.hid (H.out.later b14)
      replace K := Lib.hid (K.out.later b14)
      replace U1 := Lib.hid (U1.out.later b14)
      replace U2 := Lib.hid (U2.out.later b14)
      replace U3 := Lib.hid (U3.out.later b14)
      replace U4 := Lib.hid (U4.out.later b14)
      replace U5 := Lib.hid (U5.out.later b14)
      replace U6 := Lib.hid (U6.out.later b14)
      replace U7 := Lib.hid (U7.out.later b14)
      replace U8 := Lib.hid (U8.out.later b14)
      replace HB := Lib.hid (below2Z HB.out b14)
      clear b14
      go_wp2_with fail
      refine (live22 _).mono ?_
      rintro e w15 ⟨rfl, b15⟩
      replace H := Lib.hid (H.out.later b15)
      replace K := Lib.hid (K.out.later b15)
      replace U1 := Lib.hid (U1.out.later b15)
      replace U2 := Lib.hid (U2.out.later b15)
      replace U3 := Lib.hid (U3.out.later b15)
      replace U4 := Lib.hid (U4.out.later b15)
      replace U5 := Lib.hid (U5.out.later b15)
      replace U6 := Lib.hid (U6.out.later b15)
      replace U7 := Lib.hid (U7.out.later b15)
      replace U8 := Lib.hid (U8.out.later b15)
      replace HB := Lib.hid (below2Z HB.out b15)
      clear b15
      go_wp2_with fail
      go_ret
      exact ⟨rfl, HB.out⟩

theorem walkNetMoves {w : World} (a : Option Addr) (len cap : Nat) (zs : List ByteArray) (h : IsStrs w a len cap zs) (a' : Option Addr) (len' cap' : Nat) (zs' : List ByteArray) (h' : IsStrs w a' len' cap' zs') (i : Int) (_ : (Lit.int .i64 i).wf = true) :
    Calls Try.prog 4 #[.slice a len cap, .slice a' len' cap', .int .i64 i] w fun e w' => e = .returned (.bool true) ∧ Below w.heap.size w w' := by
  obtain ⟨ls, h1, _, _⟩ := texts_of_strs h
  obtain ⟨ms, h2, _, _⟩ := texts_of_strs h'
  exact nm h1 h2 i

end Go.Proofs.Ytlebgpgcklfhaaa
