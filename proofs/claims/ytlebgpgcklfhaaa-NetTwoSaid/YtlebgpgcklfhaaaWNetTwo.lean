/-
  THE WALK OF NetTwo.
-/
import Derived.Test.YtlebgpgcklfhaaaNetW
namespace Go.Proofs.Ytlebgpgcklfhaaa
open Go.RowKit

theorem texts_all {w : World} {a : Option Addr} {n cap : Nat} {ls : List (List UInt8)} (h : Texts w (.slice a n cap) ls) (h0 : 0 < ls.length) : ∃ b off, a = some ⟨b, off, none⟩ ∧ ∀ k, k < ls.length → w.cell? ⟨b, off + k, none⟩ = some (encS (ls.getD k [])) := by
  obtain ⟨a', cap', e, _, _, _, h⟩ := h
  simp only [Value.slice.injEq] at e
  rcases h with h | ⟨b, off, e', _, hc⟩
  · rw [h] at h0; simp at h0
  · exact ⟨b, off, e.1.trans e', hc⟩

theorem without_get {β : Type} (l : List β) {i : Nat} (hi : i < l.length) (j : Nat) : (l.take i ++ l.drop (i + 1))[j]? = if j < i then l[j]? else l[j + 1]? := by
  have h1 : (l.take i).length = i := by rw [List.length_take]; omega
  by_cases h : j < i
  · rw [if_pos h, List.getElem?_append_left (by omega), List.getElem?_take, if_pos h]
  · rw [if_neg h, List.getElem?_append_right (by omega), h1, List.getElem?_drop]
    congr 1
    omega

theorem two_takes {ls : List (List UInt8)} {m j : Nat} (h : m < j + 1) (hj : j + 1 < ls.length) :
    (ls.take m ++ ls.drop (m + 1)).getD j [] = ls.getD (j + 1) [] ∧ (ls.take (j + 1) ++ ls.drop (j + 1 + 1)).getD m [] = ls.getD m [] ∧
    (ls.take m ++ ls.drop (m + 1)).take j ++ (ls.take m ++ ls.drop (m + 1)).drop (j + 1) = (ls.take (j + 1) ++ ls.drop (j + 1 + 1)).take m ++ (ls.take (j + 1) ++ ls.drop (j + 1 + 1)).drop (m + 1) := by
  have hm : m < ls.length := by omega
  have e1 := without_get ls hm
  have e2 := without_get ls hj
  have l1 : (ls.take m ++ ls.drop (m + 1)).length = ls.length - 1 := by rw [List.length_append, List.length_take, List.length_drop]; omega
  have l2 : (ls.take (j + 1) ++ ls.drop (j + 1 + 1)).length = ls.length - 1 := by rw [List.length_append, List.length_take, List.length_drop]; omega
  refine ⟨?_, ?_, ?_⟩
  · rw [List.getD_eq_getElem?_getD, e1, if_neg (by omega), List.getD_eq_getElem?_getD]
  · rw [List.getD_eq_getElem?_getD, e2, if_pos (by omega), List.getD_eq_getElem?_getD]
  · apply List.ext_getElem?
    intro n
    rw [without_get (ls.take m ++ ls.drop (m + 1)) (i := j) (by omega), without_get (ls.take (j + 1) ++ ls.drop (j + 1 + 1)) (i := m) (by omega)]
    simp only [e1, e2]
    by_cases h1 : n < m
    · rw [if_pos (show n < j by omega), if_pos h1, if_pos h1, if_pos (show n < j + 1 by omega)]
    · by_cases h2 : n < j
      · rw [if_pos h2, if_neg h1, if_neg h1, if_pos (show n + 1 < j + 1 by omega)]
      · rw [if_neg h2, if_neg (show ¬ n + 1 < m by omega), if_neg h1, if_neg (show ¬ n + 1 < j + 1 by omega)]

theorem take_last (ls : List (List UInt8)) (p : List UInt8) : ntTake (ls ++ [p]) (ls.length : Int) = (p, ls, 0) := by
  have h := ntTake_yes (ls := ls ++ [p]) (k := ls.length) (by simp)
  rw [h]
  simp

set_option maxHeartbeats 3200000 in
set_option maxRecDepth 1000000 in
theorem nt {w : World} {v : Value} {ls : List (List UInt8)} (h : Texts w v ls) (i k : Int) :
    Calls Try.prog 7 #[v, .int .i64 i, .int .i64 k] w fun e w' => e = .returned (.bool true) ∧ Below w.heap.size w w' := by
  have HB := Lib.hid (Below.refl w.heap.size w)
  have H := Lib.hid h
  obtain ⟨a, cap, rfl, hc1, hc2, _, _⟩ := h
  unfold maxLen at hc2
  obtain ⟨f1, hf1⟩ : ∃ r, fewN 30 100 ls = r := ⟨_, rfl⟩
  have F1 := Lib.hid hf1
  clear hf1
  go_enter Try.func7, Try.ntmps7
  go_wp2_with fail
  refine (fewN_eq H.out 30 100 F1).mono ?_
  rintro e w1 ⟨rfl, b1⟩
  replace H := Lib.hid (H.out.later b1)
  replace HB := Lib.hid (below2Z HB.out b1)
  clear b1
  cases f1 with
  | false =>
    go_wp2_with fail
    refine (live22 _).mono ?_
    rintro e w102 ⟨rfl, b102⟩
    replace HB := Lib.hid (below2Z HB.out b102)
    clear b102
    go_wp2_with fail
    go_ret
    exact ⟨rfl, HB.out⟩
  | true =>
    by_cases h0 : i < 0
    case pos =>
      have t1 : decide (i < 0) = true := by simp; omega
      go_wp2_with fail
      refine (live22 _).mono ?_
      rintro e w102 ⟨rfl, b102⟩
      replace HB := Lib.hid (below2Z HB.out b102)
      clear b102
      go_wp2_with fail
      go_ret
      exact ⟨rfl, HB.out⟩
    case neg =>
      have t1 : decide (i < 0) = false := by simp; omega
      by_cases h1 : k ≤ i
      case pos =>
        have t2 : decide (k ≤ i) = true := by simp; omega
        go_wp2_with fail
        refine (live22 _).mono ?_
        rintro e w102 ⟨rfl, b102⟩
        replace HB := Lib.hid (below2Z HB.out b102)
        clear b102
        go_wp2_with fail
        go_ret
        exact ⟨rfl, HB.out⟩
      case neg =>
        have t2 : decide (k ≤ i) = false := by simp; omega
        by_cases h2 : (ls.length : Int) ≤ k
        case pos =>
          have t3 : decide ((ls.length : Int) ≤ k) = true := by simp; omega
          go_wp2_with fail
          refine (live22 _).mono ?_
          rintro e w102 ⟨rfl, b102⟩
          replace HB := Lib.hid (below2Z HB.out b102)
          clear b102
          go_wp2_with fail
          go_ret
          exact ⟨rfl, HB.out⟩
        case neg =>
          have t3 : decide ((ls.length : Int) ≤ k) = false := by simp; omega
          obtain ⟨m, rfl⟩ := Int.eq_ofNat_of_zero_le (show 0 ≤ i by omega)
          obtain ⟨j, hj⟩ := Int.eq_ofNat_of_zero_le (show 0 ≤ k - 1 by omega)
          obtain rfl : k = (j : Int) + 1 := by omega
          have hmj : m < j + 1 := by omega
          have hjl : j + 1 < ls.length := by omega
          have hml : m < ls.length := by omega
          obtain ⟨hl, _⟩ := few_len F1
          obtain ⟨b, off, rfl, hcs⟩ := texts_all H.out (by omega)
          have C1 := Lib.hid (hcs m hml)
          have C2 := Lib.hid (hcs (j + 1) hjl)
          obtain ⟨p, hp⟩ : ∃ p, ls.getD m [] = p := ⟨_, rfl⟩
          obtain ⟨q, hq⟩ : ∃ q, ls.getD (j + 1) [] = q := ⟨_, rfl⟩
          rw [hp] at C1
          rw [hq] at C2
          unfold encS at C1 C2
          have HP := Lib.hid hp
          have HQ := Lib.hid hq
          obtain ⟨q1, q2, q3⟩ := two_takes hmj hjl
          have Q1 := Lib.hid (q1.trans hq)
          have Q2 := Lib.hid (q2.trans hp)
          have Q3 := Lib.hid q3
          clear hp hq q1 q2 q3 hcs h0 h1 h2 hj F1
          have hT : Hid (ntTwice ls (m : Int) = (ls ++ [p], 0)) := Lib.hid (by rw [ntTwice_yes hml (by omega), HP.out])
          have hx1 : (ls.take m ++ ls.drop (m + 1)).length ≤ 1000 := by rw [List.length_append, List.length_take, List.length_drop]; omega
          have hx2 : (ls.take (j + 1) ++ ls.drop (j + 1 + 1)).length ≤ 1000 := by rw [List.length_append, List.length_take, List.length_drop]; omega
          have hy1 : j < (ls.take m ++ ls.drop (m + 1)).length := by rw [List.length_append, List.length_take, List.length_drop]; omega
          have hy2 : m < (ls.take (j + 1) ++ ls.drop (j + 1 + 1)).length := by rw [List.length_append, List.length_take, List.length_drop]; omega
          obtain ⟨l1, hl1⟩ : ∃ l1, ls.take m ++ ls.drop (m + 1) = l1 := ⟨_, rfl⟩
          obtain ⟨l2, hl2⟩ : ∃ l2, ls.take (j + 1) ++ ls.drop (j + 1 + 1) = l2 := ⟨_, rfl⟩
          have hll : l1.length ≤ 1000 ∧ l2.length ≤ 1000 ∧ j < l1.length ∧ m < l2.length := by rw [← hl1, ← hl2]; exact ⟨hx1, hx2, hy1, hy2⟩
          rw [hl1] at Q1 Q3
          rw [hl2] at Q2 Q3
          have HL1 := Lib.hid hl1
          have HL2 := Lib.hid hl2
          have HLL := Lib.hid hll
          have hw1 : IntKind.i64.wrap ((j : Int) + 1) = (j : Int) + 1 := IntWalk.i64_in _ (by omega)
          have HD : Hid (ntTake (ls ++ [p]) (ls.length : Int) = (p, ls, 0)) := Lib.hid (take_last ls p)
          clear hl1 hl2 hll hx1 hx2 hy1 hy2
          go_wp2_with fail
          refine (ntake_yes H.out (by omega) m hml HP.out).mono ?_
          rintro e w2 ⟨uX, rfl, huX, b2⟩
          replace H := Lib.hid (H.out.later b2)
          replace C1 := Lib.hid (cellLaterZ C1.out b2)
          replace C2 := Lib.hid (cellLaterZ C2.out b2)
          replace HB := Lib.hid (below2Z HB.out b2)
          rw [HL1.out] at huX
          have X := Lib.hid huX
          clear huX
          clear b2
          go_wp2_with fail
          refine (ntake_yes X.out HLL.out.1 j HLL.out.2.2.1 Q1.out).mono ?_
          rintro e w3 ⟨uY, rfl, huY, b3⟩
          replace H := Lib.hid (H.out.later b3)
          replace C1 := Lib.hid (cellLaterZ C1.out b3)
          replace C2 := Lib.hid (cellLaterZ C2.out b3)
          replace X := Lib.hid (X.out.later b3)
          replace HB := Lib.hid (below2Z HB.out b3)
          have Y := Lib.hid huY
          clear huY
          clear b3
          go_wp2_with fail
          refine (ntake_yes H.out (by omega) (j + 1) hjl HQ.out).mono ?_
          rintro e w4 ⟨uV, rfl, huV, b4⟩
          replace H := Lib.hid (H.out.later b4)
          replace C1 := Lib.hid (cellLaterZ C1.out b4)
          replace C2 := Lib.hid (cellLaterZ C2.out b4)
          replace X := Lib.hid (X.out.later b4)
          replace Y := Lib.hid (Y.out.later b4)
          replace HB := Lib.hid (below2Z HB.out b4)
          rw [HL2.out] at huV
          have V := Lib.hid huV
          clear huV
          clear b4
          go_wp2_with fail
          refine (ntake_yes V.out HLL.out.2.1 m HLL.out.2.2.2 Q2.out).mono ?_
          rintro e w5 ⟨uZ, rfl, huZ, b5⟩
          replace H := Lib.hid (H.out.later b5)
          replace C1 := Lib.hid (cellLaterZ C1.out b5)
          replace C2 := Lib.hid (cellLaterZ C2.out b5)
          replace X := Lib.hid (X.out.later b5)
          replace Y := Lib.hid (Y.out.later b5)
          replace V := Lib.hid (V.out.later b5)
          replace HB := Lib.hid (below2Z HB.out b5)
          rw [← Q3.out] at huZ
          have Z := Lib.hid huZ
          clear huZ
          clear b5
          go_wp2_with fail
          refine (ntwice_any H.out m hT).mono ?_
          rintro e w6 ⟨uT, rfl, huT, b6⟩
          replace H := Lib.hid (H.out.later b6)
          replace C1 := Lib.hid (cellLaterZ C1.out b6)
          replace C2 := Lib.hid (cellLaterZ C2.out b6)
          replace X := Lib.hid (X.out.later b6)
          replace Y := Lib.hid (Y.out.later b6)
          replace V := Lib.hid (V.out.later b6)
          replace Z := Lib.hid (Z.out.later b6)
          replace HB := Lib.hid (below2Z HB.out b6)
          have T := Lib.hid huT
          clear huT
          clear b6
          go_wp2_with fail
          refine (ndrop_any T.out (by simp; omega) (ls.length : Int) HD).mono ?_
          rintro e w7 ⟨uK, rfl, huK, b7⟩
          replace H := Lib.hid (H.out.later b7)
          replace C1 := Lib.hid (cellLaterZ C1.out b7)
          replace C2 := Lib.hid (cellLaterZ C2.out b7)
          replace X := Lib.hid (X.out.later b7)
          replace Y := Lib.hid (Y.out.later b7)
          replace V := Lib.hid (V.out.later b7)
          replace Z := Lib.hid (Z.out.later b7)
          replace T := Lib.hid (T.out.later b7)
          replace HB := Lib.hid (below2Z HB.out b7)
          have K := Lib.hid huK
          clear huK
          clear b7
          have c1 := C1.out
          have c2 := C2.out
          go_wp2_with fail
          clear c1 c2
          refine (same_yes Y.out Z.out (by have := HLL.out.1; rw [List.length_append, List.length_take, List.length_drop]; omega)).mono ?_
          rintro e w8 ⟨rfl, b8⟩
          replace H := Lib.hid (H.out.later b8)
          replace C1 := Lib.hid (cellLaterZ C1.out b8)
          replace C2 := Lib.hid (cellLaterZ C2.out b8)
          replace X := Lib.hid (X.out.later b8)
          replace Y := Lib.hid (Y.out.later b8)
          replace V := Lib.hid (V.out.later b8)
          replace Z := Lib.hid (Z.out.later b8)
          replace T := Lib.hid (T.out.later b8)
          replace K := Lib.hid (K.out.later b8)
          replace HB := Lib.hid (below2Z HB.out b8)
          clear b8
          have c1 := C1.out
          have c2 := C2.out
          go_wp2_with fail
          clear c1 c2
          refine (same_yes K.out H.out (by omega)).mono ?_
          rintro e w9 ⟨rfl, b9⟩
          replace H := Lib.hid (H.out.later b9)
          replace C1 := Lib.hid (cellLaterZ C1.out b9)
          replace C2 := Lib.hid (cellLaterZ C2.out b9)
          replace X := Lib.hid (X.out.later b9)
          replace Y := Lib.hid (Y.out.later b9)
          replace V := Lib.hid (V.out.later b9)
          replace Z := Lib.hid (Z.out.later b9)
          replace T := Lib.hid (T.out.later b9)
          replace K := Lib.hid (K.out.later b9)
          replace HB := Lib.hid (below2Z HB.out b9)
          clear b9
          go_wp2_with fail
          refine (live22 _).mono ?_
          rintro e w10 ⟨rfl, b10⟩
          replace H := Lib.hid (H.out.later b10)
          replace C1 := Lib.hid (cellLaterZ C1.out b10)
          replace C2 := Lib.hid (cellLaterZ C2.out b10)
          replace X := Lib.hid (X.out.later b10)
          replace Y := Lib.hid (Y.out.later b10)
          replace V := Lib.hid (V.out.later b10)
          replace Z := Lib.hid (Z.out.later b10)
          replace T := Lib.hid (T.out.later b10)
          replace K := Lib.hid (K.out.later b10)
          replace HB := Lib.hid (below2Z HB.out b10)
          clear b10
          go_wp2_with fail
          go_ret
          exact ⟨rfl, HB.out⟩

theorem walkNetTwo {w : World} (a : Option Addr) (len cap : Nat) (zs : List ByteArray) (h : IsStrs w a len cap zs) (i : Int) (_ : (Lit.int .i64 i).wf = true) (k : Int) (_ : (Lit.int .i64 k).wf = true) :
    Calls Try.prog 7 #[.slice a len cap, .int .i64 i, .int .i64 k] w fun e w' => e = .returned (.bool true) ∧ Below w.heap.size w w' := by
  obtain ⟨ls, h1, _, _⟩ := texts_of_strs h
  exact nt h1 i k

end Go.Proofs.Ytlebgpgcklfhaaa
