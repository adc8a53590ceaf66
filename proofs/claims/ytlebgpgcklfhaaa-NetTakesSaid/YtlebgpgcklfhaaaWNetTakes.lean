/-
  THE WALK OF NetTakes.
-/
import Derived.Test.YtlebgpgcklfhaaaNetW
import Derived.Test.YtlebgpgcklfhaaaWNetTwo
namespace Go.Proofs.Ytlebgpgcklfhaaa
open Go.RowKit

theorem take_head {A : List (List UInt8)} {j : Nat} (h : j < A.length) : ntTake (A.drop j) 0 = (A.getD j [], A.drop (j + 1), 0) := by
  have := ntTake_yes (ls := A.drop j) (k := 0) (by rw [List.length_drop]; omega)
  rw [show ((0 : Nat) : Int) = 0 from rfl] at this
  rw [this, List.take_zero, List.nil_append, List.drop_drop, List.getD_eq_getElem?_getD, List.getElem?_drop, Nat.add_zero, ← List.getD_eq_getElem?_getD]

/-- What is left of those without the text number k, behind j texts of all. -/
def lessAt (B : List (List UInt8)) (k j : Nat) : List (List UInt8) := B.drop (if j ≤ k then j else j - 1)

theorem less_head {A : List (List UInt8)} {k j : Nat} (hk : k < A.length) (h : j < A.length) (hn : ¬ j = k) : ntTake (lessAt (A.take k ++ A.drop (k + 1)) k j) 0 = (A.getD j [], lessAt (A.take k ++ A.drop (k + 1)) k (j + 1), 0) := by
  have hl : (A.take k ++ A.drop (k + 1)).length = A.length - 1 := by rw [List.length_append, List.length_take, List.length_drop]; omega
  unfold lessAt
  by_cases hj : j ≤ k
  · rw [if_pos hj, if_pos (show j + 1 ≤ k by omega), take_head (by omega), List.getD_eq_getElem?_getD, without_get A hk, if_pos (by omega), ← List.getD_eq_getElem?_getD]
  · rw [if_neg hj, if_neg (show ¬ j + 1 ≤ k by omega), take_head (by omega), List.getD_eq_getElem?_getD, without_get A hk, if_neg (by omega), show j - 1 + 1 = j by omega, ← List.getD_eq_getElem?_getD, show j + 1 - 1 = j by omega]

theorem less_same (B : List (List UInt8)) (k : Nat) : lessAt B k (k + 1) = lessAt B k k := by
  unfold lessAt
  rw [if_neg (by omega), if_pos (by omega), Nat.add_sub_cancel]

theorem less_len {B : List (List UInt8)} (k j : Nat) : (lessAt B k j).length ≤ B.length := by unfold lessAt; rw [List.length_drop]; omega

theorem less_end {A : List (List UInt8)} {k : Nat} (hk : k < A.length) : lessAt (A.take k ++ A.drop (k + 1)) k A.length = [] := by
  unfold lessAt
  rw [if_neg (by omega)]
  exact List.drop_eq_nil_of_le (by rw [List.length_append, List.length_take, List.length_drop]; omega)

theorem last_getD (A : List (List UInt8)) (p : List UInt8) : (A ++ [p]).getD A.length [] = p := by
  rw [List.getD_eq_getElem?_getD, List.getElem?_append_right (Nat.le_refl _), Nat.sub_self]
  rfl

set_option maxHeartbeats 3200000 in
set_option maxRecDepth 1000000 in
theorem ntk_out {w : World} {v u : Value} {ls ms A : List (List UInt8)} (h : Texts w v ls) (k0 : Texts w u ms) (hA : Hid (ls ++ ms = A)) (F1 : Hid (fewN 30 100 ls = true)) (F2 : Hid (fewN 30 100 ms = true)) (hl0 : ls.length ≤ 30) (hm0 : ms.length ≤ 30) (hA1000 : A.length ≤ 1000) (i : Int) (hi : ¬ ntIn A.length i) (HT : Hid (ntTwice A i = (A, 6))) (HD : Hid (ntTake A i = ([], A, 6))) :
    Calls Try.prog 6 #[v, u, .int .i64 i] w fun e w' => e = .returned (.bool true) ∧ Below w.heap.size w w' := by
  have HB := Lib.hid (Below.refl w.heap.size w)
  have H := Lib.hid h
  have K := Lib.hid k0
  obtain ⟨a, cap, rfl, _, _, _, _⟩ := h
  obtain ⟨a2, cap2, rfl, _, _, _, _⟩ := k0
  have hl := hl0
  have hm := hm0
  obtain ⟨i0, hi0, hz0, hz1, hz2⟩ := info_parts Try.infoStr
  go_enter Try.func6, Try.ntmps6
  go_wp2_with fail
  refine (fewN_eq H.out 30 100 F1).mono ?_
  rintro e w1 ⟨rfl, b1⟩
  replace H := Lib.hid (H.out.later b1)
  replace K := Lib.hid (K.out.later b1)
  replace HB := Lib.hid (below2Z HB.out b1)
  clear b1
  go_wp2_with fail
  refine (fewN_eq K.out 30 100 F2).mono ?_
  rintro e w2 ⟨rfl, b2⟩
  replace H := Lib.hid (H.out.later b2)
  replace K := Lib.hid (K.out.later b2)
  replace HB := Lib.hid (below2Z HB.out b2)
  clear b2
  go_wp2_with fail
  refine (nsend_any H.out K.out (by omega)).mono ?_
  rintro e w3 ⟨uR, rfl, huR, b3⟩
  replace H := Lib.hid (H.out.later b3)
  replace K := Lib.hid (K.out.later b3)
  replace HB := Lib.hid (below2Z HB.out b3)
  have R := Lib.hid huR
  clear huR
  clear b3
  have S1 := Lib.hid (texts_src (H.out.later (bl_newZ w3 (.cells #[] 9))))
  have O1 := Lib.hid (ownT_made w3 9)
  go_wp2_with (at_builtin; go_must (refine wpList_append_texts rfl _ _ 22 rfl w3.heap.size 9 i0 _ 16 Try.underlying22 hi0 hz0 hz1 hz2 rfl _ _ rfl (by exact O1.out) a ls.length cap ls rfl rfl S1.out.2.1 S1.out.2.2 (by first | omega | (simp; omega)) (by decide) (by simp) ?_))
  intro va wa ho2 hb2
  have BA : Hid (Below w3.heap.size w3 wa) := Lib.hid (((Below.refl w3.heap.size w3).alloc (Nat.le_refl _) _).trans hb2)
  have S2 := Lib.hid (texts_src (K.out.later BA.out))
  have hsz2 := BA.out.size
  have O2 := Lib.hid ho2
  clear ho2 hb2 S1 O1
  go_wp2_with (at_builtin; go_must (refine wpList_append_texts rfl _ _ 22 rfl w3.heap.size 9 i0 _ 16 Try.underlying22 hi0 hz0 hz1 hz2 rfl _ _ rfl (by exact O2.out) a2 ms.length cap2 ms rfl rfl S2.out.2.1 S2.out.2.2 (by first | omega | (simp; omega)) (by decide) hsz2 ?_))
  intro uA wb ho3 hb3
  have bB : Below w3.heap.size w3 wb := BA.out.trans hb3
  have AT : Hid (Texts wb uA (ls ++ ms)) := Lib.hid (by have := ho3.texts; simpa using this)
  replace H := Lib.hid (H.out.later bB)
  replace K := Lib.hid (K.out.later bB)
  replace R := Lib.hid (R.out.later bB)
  replace HB := Lib.hid (below2Z HB.out bB)
  clear ho3 hb3 bB BA S2 O2
  rw [hA.out] at R AT
  go_wp2_with fail
  refine (ntwice_any R.out i HT).mono ?_
  rintro e w4 ⟨uTW, rfl, huTW, b4⟩
  replace H := Lib.hid (H.out.later b4)
  replace K := Lib.hid (K.out.later b4)
  replace R := Lib.hid (R.out.later b4)
  replace AT := Lib.hid (AT.out.later b4)
  replace HB := Lib.hid (below2Z HB.out b4)
  have TW := Lib.hid huTW
  clear huTW
  clear b4
  go_wp2_with fail
  refine (ndrop_any R.out hA1000 i HD).mono ?_
  rintro e w5 ⟨uL, rfl, huL, b5⟩
  replace H := Lib.hid (H.out.later b5)
  replace K := Lib.hid (K.out.later b5)
  replace R := Lib.hid (R.out.later b5)
  replace AT := Lib.hid (AT.out.later b5)
  replace TW := Lib.hid (TW.out.later b5)
  replace HB := Lib.hid (below2Z HB.out b5)
  have L := Lib.hid huL
  clear huL
  clear b5
  obtain ⟨aa, ac, eA⟩ : ∃ aa ac, uA = .slice aa A.length ac := by obtain ⟨ua, uc, e, _⟩ := AT.out; exact ⟨ua, uc, e⟩
  subst eA
  have HAC : Hid (∀ k, k < A.length → ∃ b off, aa = some ⟨b, off, none⟩ ∧ w5.cell? ⟨b, off + k, none⟩ = some (encS (A.getD k []))) := Lib.hid (fun k hk => texts_at AT.out hk)
  clear H K L TW AT
  by_cases h0 : 0 ≤ i
  case pos =>
    have t0 : decide (0 ≤ i) = true := by simp; omega
    have t1 : decide (i < (A.length : Int)) = false := by simp; unfold ntIn at hi; omega
    clear hi h0
    go_wp2_with fail
    try go_region
    try go_wp2_with fail
    clear t0 t1
    go_loopw [7, 13] (fun r i wr => ∃ j : Nat, j ≤ A.length ∧ i = .int .i64 j ∧ Hid (Texts wr r (A.drop j)) ∧ Hid (Below w5.heap.size w5 wr)) (fun _ i _ => A.length - (intOf i).toNat)
    case atStart => exact ⟨0, by omega, rfl, Lib.hid (R.out.later (Below.refl _ _).drew), Lib.hid (Below.refl _ _).drew⟩
    case round =>
      obtain ⟨j, hj, rfl, HR, HN⟩ := hrel
      by_cases hlt : j < A.length
      case pos =>
        obtain ⟨b, off, rfl, hc⟩ := HAC.out j hlt
        have C := Lib.hid (cellLaterZ hc HN.out)
        obtain ⟨p, hp⟩ : ∃ p, A.getD j [] = p := ⟨_, rfl⟩
        rw [hp] at C
        unfold encS at C
        have HT0 : Hid (ntTake (A.drop j) 0 = (p, A.drop (j + 1), 0)) := Lib.hid (by rw [← hp]; exact take_head hlt)
        clear hc hp
        have hdl : (A.drop j).length ≤ 1000 := by rw [List.length_drop]; omega
        go_wp2_with fail
        refine (ntake_any HR.out hdl 0 HT0).mono ?_
        rintro e w9 ⟨u, rfl, hu, hb⟩
        have U := Lib.hid hu
        have c := cellLaterZ C.out hb
        have N9 := Lib.hid (below2Z HN.out hb)
        clear hu hb
        go_wp2_with fail
        go_roundw
        case rel => exact ⟨j + 1, by omega, by go_num, U, N9⟩
        case measure => simp [intOf]; omega
      obtain hjn : j = A.length := by omega
      have HR0 := HR.out
      rw [hjn, List.drop_length] at HR0
      obtain ⟨ra, rc, rfl, _⟩ := HR0
      clear HR
      replace HB := Lib.hid (below2Z HB.out HN.out)
      go_wp2_with fail
      refine (live22 _).mono ?_
      rintro e w901 ⟨rfl, b901⟩
      replace HB := Lib.hid (below2Z HB.out b901)
      clear b901
      go_wp2_with fail
      go_ret
      exact ⟨rfl, HB.out⟩
  case neg =>
    have t0 : decide (0 ≤ i) = false := by simp; omega
    have t1 : decide ((6 : Int) == 0) = false := by decide
    clear hi h0
    go_wp2_with fail
    try go_region
    try go_wp2_with fail
    clear t0 t1
    go_loopw [7, 13] (fun r i wr => ∃ j : Nat, j ≤ A.length ∧ i = .int .i64 j ∧ Hid (Texts wr r (A.drop j)) ∧ Hid (Below w5.heap.size w5 wr)) (fun _ i _ => A.length - (intOf i).toNat)
    case atStart => exact ⟨0, by omega, rfl, Lib.hid (R.out.later (Below.refl _ _).drew), Lib.hid (Below.refl _ _).drew⟩
    case round =>
      obtain ⟨j, hj, rfl, HR, HN⟩ := hrel
      by_cases hlt : j < A.length
      case pos =>
        obtain ⟨b, off, rfl, hc⟩ := HAC.out j hlt
        have C := Lib.hid (cellLaterZ hc HN.out)
        obtain ⟨p, hp⟩ : ∃ p, A.getD j [] = p := ⟨_, rfl⟩
        rw [hp] at C
        unfold encS at C
        have HT0 : Hid (ntTake (A.drop j) 0 = (p, A.drop (j + 1), 0)) := Lib.hid (by rw [← hp]; exact take_head hlt)
        clear hc hp
        have hdl : (A.drop j).length ≤ 1000 := by rw [List.length_drop]; omega
        go_wp2_with fail
        refine (ntake_any HR.out hdl 0 HT0).mono ?_
        rintro e w9 ⟨u, rfl, hu, hb⟩
        have U := Lib.hid hu
        have c := cellLaterZ C.out hb
        have N9 := Lib.hid (below2Z HN.out hb)
        clear hu hb
        go_wp2_with fail
        go_roundw
        case rel => exact ⟨j + 1, by omega, by go_num, U, N9⟩
        case measure => simp [intOf]; omega
      obtain hjn : j = A.length := by omega
      have HR0 := HR.out
      rw [hjn, List.drop_length] at HR0
      obtain ⟨ra, rc, rfl, _⟩ := HR0
      clear HR
      replace HB := Lib.hid (below2Z HB.out HN.out)
      go_wp2_with fail
      refine (live22 _).mono ?_
      rintro e w901 ⟨rfl, b901⟩
      replace HB := Lib.hid (below2Z HB.out b901)
      clear b901
      go_wp2_with fail
      go_ret
      exact ⟨rfl, HB.out⟩

set_option maxHeartbeats 3200000 in
set_option maxRecDepth 1000000 in
theorem ntk_in {w : World} {v u : Value} {ls ms A : List (List UInt8)} (h : Texts w v ls) (k0 : Texts w u ms) (hA : Hid (ls ++ ms = A)) (F1 : Hid (fewN 30 100 ls = true)) (F2 : Hid (fewN 30 100 ms = true)) (hl0 : ls.length ≤ 30) (hm0 : ms.length ≤ 30) (hA1000 : A.length ≤ 1000) (k : Nat) (hk : k < A.length) (hA60 : A.length ≤ 60) (HT : Hid (ntTwice A (k : Int) = (A ++ [A.getD k []], 0))) (HD : Hid (ntTake A (k : Int) = (A.getD k [], A.take k ++ A.drop (k + 1), 0))) :
    Calls Try.prog 6 #[v, u, .int .i64 k] w fun e w' => e = .returned (.bool true) ∧ Below w.heap.size w w' := by
  have HB := Lib.hid (Below.refl w.heap.size w)
  have H := Lib.hid h
  have K := Lib.hid k0
  obtain ⟨a, cap, rfl, _, _, _, _⟩ := h
  obtain ⟨a2, cap2, rfl, _, _, _, _⟩ := k0
  have hl := hl0
  have hm := hm0
  obtain ⟨i0, hi0, hz0, hz1, hz2⟩ := info_parts Try.infoStr
  go_enter Try.func6, Try.ntmps6
  go_wp2_with fail
  refine (fewN_eq H.out 30 100 F1).mono ?_
  rintro e w1 ⟨rfl, b1⟩
  replace H := Lib.hid (H.out.later b1)
  replace K := Lib.hid (K.out.later b1)
  replace HB := Lib.hid (below2Z HB.out b1)
  clear b1
  go_wp2_with fail
  refine (fewN_eq K.out 30 100 F2).mono ?_
  rintro e w2 ⟨rfl, b2⟩
  replace H := Lib.hid (H.out.later b2)
  replace K := Lib.hid (K.out.later b2)
  replace HB := Lib.hid (below2Z HB.out b2)
  clear b2
  go_wp2_with fail
  refine (nsend_any H.out K.out (by omega)).mono ?_
  rintro e w3 ⟨uR, rfl, huR, b3⟩
  replace H := Lib.hid (H.out.later b3)
  replace K := Lib.hid (K.out.later b3)
  replace HB := Lib.hid (below2Z HB.out b3)
  have R := Lib.hid huR
  clear huR
  clear b3
  have S1 := Lib.hid (texts_src (H.out.later (bl_newZ w3 (.cells #[] 9))))
  have O1 := Lib.hid (ownT_made w3 9)
  go_wp2_with (at_builtin; go_must (refine wpList_append_texts rfl _ _ 22 rfl w3.heap.size 9 i0 _ 16 Try.underlying22 hi0 hz0 hz1 hz2 rfl _ _ rfl (by exact O1.out) a ls.length cap ls rfl rfl S1.out.2.1 S1.out.2.2 (by first | omega | (simp; omega)) (by decide) (by simp) ?_))
  intro va wa ho2 hb2
  have BA : Hid (Below w3.heap.size w3 wa) := Lib.hid (((Below.refl w3.heap.size w3).alloc (Nat.le_refl _) _).trans hb2)
  have S2 := Lib.hid (texts_src (K.out.later BA.out))
  have hsz2 := BA.out.size
  have O2 := Lib.hid ho2
  clear ho2 hb2 S1 O1
  go_wp2_with (at_builtin; go_must (refine wpList_append_texts rfl _ _ 22 rfl w3.heap.size 9 i0 _ 16 Try.underlying22 hi0 hz0 hz1 hz2 rfl _ _ rfl (by exact O2.out) a2 ms.length cap2 ms rfl rfl S2.out.2.1 S2.out.2.2 (by first | omega | (simp; omega)) (by decide) hsz2 ?_))
  intro uA wb ho3 hb3
  have bB : Below w3.heap.size w3 wb := BA.out.trans hb3
  have AT : Hid (Texts wb uA (ls ++ ms)) := Lib.hid (by have := ho3.texts; simpa using this)
  replace H := Lib.hid (H.out.later bB)
  replace K := Lib.hid (K.out.later bB)
  replace R := Lib.hid (R.out.later bB)
  replace HB := Lib.hid (below2Z HB.out bB)
  clear ho3 hb3 bB BA S2 O2
  rw [hA.out] at R AT
  go_wp2_with fail
  refine (ntwice_any R.out (k : Int) HT).mono ?_
  rintro e w4 ⟨uTW, rfl, huTW, b4⟩
  replace H := Lib.hid (H.out.later b4)
  replace K := Lib.hid (K.out.later b4)
  replace R := Lib.hid (R.out.later b4)
  replace AT := Lib.hid (AT.out.later b4)
  replace HB := Lib.hid (below2Z HB.out b4)
  have TW := Lib.hid huTW
  clear huTW
  clear b4
  go_wp2_with fail
  refine (ndrop_any R.out hA1000 (k : Int) HD).mono ?_
  rintro e w5 ⟨uL, rfl, huL, b5⟩
  replace H := Lib.hid (H.out.later b5)
  replace K := Lib.hid (K.out.later b5)
  replace R := Lib.hid (R.out.later b5)
  replace AT := Lib.hid (AT.out.later b5)
  replace TW := Lib.hid (TW.out.later b5)
  replace HB := Lib.hid (below2Z HB.out b5)
  have L := Lib.hid huL
  clear huL
  clear b5
  obtain ⟨n, hn⟩ : ∃ n, A.length = n + 1 := ⟨A.length - 1, by omega⟩
  have HNN := Lib.hid hn
  have hB : Hid ((A.take k ++ A.drop (k + 1)).length = n) := Lib.hid (by rw [List.length_append, List.length_take, List.length_drop]; omega)
  obtain ⟨aa, ac, eA⟩ : ∃ aa ac, uA = .slice aa (n + 1) ac := by obtain ⟨ua, uc, e, _⟩ := AT.out; exact ⟨ua, uc, by rw [e, HNN.out]⟩
  subst eA
  obtain ⟨ta, tcp, eT⟩ : ∃ ta tcp, uTW = .slice ta (n + 1 + 1) tcp := by obtain ⟨ua, uc, e, _⟩ := TW.out; exact ⟨ua, uc, by rw [e, List.length_append, HNN.out]; rfl⟩
  subst eT
  obtain ⟨la, lc, eL⟩ : ∃ la lc, uL = .slice la n lc := by obtain ⟨ua, uc, e, _⟩ := L.out; exact ⟨ua, uc, by rw [e, hB.out]⟩
  subst eL
  have HAC : Hid (∀ k, k < n + 1 → ∃ b off, aa = some ⟨b, off, none⟩ ∧ w5.cell? ⟨b, off + k, none⟩ = some (encS (A.getD k []))) := Lib.hid (fun k hk => texts_at AT.out (by rw [HNN.out]; exact hk))
  obtain ⟨tb, to, rfl, htc⟩ := texts_at TW.out (k := A.length) (by simp)
  obtain ⟨ab, ao, eAA, hac⟩ := HAC.out k (by omega)
  subst eAA
  rw [last_getD] at htc
  rw [HNN.out] at htc
  obtain ⟨p, hp⟩ : ∃ p, A.getD k [] = p := ⟨_, rfl⟩
  rw [hp] at htc hac
  unfold encS at htc hac
  have hkn : k < n + 1 := by omega
  have hn60 : n ≤ 60 := by omega
  have t0 : decide ((0 : Int) ≤ (k : Int)) = true := by simp
  have t1 : decide ((k : Int) < (n : Int) + 1) = true := by simp; omega
  have t2 : decide (k < n + 1) = true := by simp; omega
  have hw1 : IntKind.i64.wrap ((n : Int) + 1 + 1) = (n : Int) + 1 + 1 := IntWalk.i64_in _ (by omega)
  have HK := Lib.hid hk
  clear H K TW AT hn hp hA1000
  go_wp2_with fail
  go_region
  go_wp2_with fail
  clear t0 t1 t2 htc hac hw1
  go_loopw [7, 11, 13] (fun r l i wr => ∃ j : Nat, j ≤ n + 1 ∧ i = .int .i64 j ∧ Hid (Texts wr r (A.drop j)) ∧ Hid (Texts wr l (lessAt (A.take k ++ A.drop (k + 1)) k j)) ∧ Hid (Below w5.heap.size w5 wr)) (fun _ _ i _ => n + 1 - (intOf i).toNat)
  case atStart => exact ⟨0, by omega, rfl, Lib.hid (R.out.later (Below.refl _ _).drew), Lib.hid (by show Texts _ _ _; unfold lessAt; rw [if_pos (Nat.zero_le _)]; exact L.out.later (Below.refl _ _).drew), Lib.hid (Below.refl _ _).drew⟩
  case round =>
    obtain ⟨j, hj, rfl, HR, HL, HN⟩ := hrel
    by_cases hlt : j < n + 1
    case pos =>
      obtain ⟨b, off, e, hc⟩ := HAC.out j hlt
      simp only [Option.some.injEq, Addr.mk.injEq, and_true] at e
      obtain ⟨rfl, rfl⟩ := e
      have C := Lib.hid (cellLaterZ hc HN.out)
      have hjA : j < A.length := by rw [HNN.out]; exact hlt
      obtain ⟨p, hp⟩ : ∃ p, A.getD j [] = p := ⟨_, rfl⟩
      rw [hp] at C
      unfold encS at C
      have HT0 : Hid (ntTake (A.drop j) 0 = (p, A.drop (j + 1), 0)) := Lib.hid (by rw [← hp]; exact take_head hjA)
      have hdl : (A.drop j).length ≤ 1000 := by rw [List.length_drop, HNN.out]; omega
      have HP := Lib.hid hp
      have HJA := Lib.hid hjA
      clear hc hp hjA
      go_wp2_with fail
      refine (ntake_any HR.out hdl 0 HT0).mono ?_
      rintro e w9 ⟨u, rfl, hu, hb⟩
      have U := Lib.hid hu
      have c := cellLaterZ C.out hb
      have N9 := Lib.hid (below2Z HN.out hb)
      have HL9 := Lib.hid (HL.out.later hb)
      clear hu hb HT0 HR HL hdl
      by_cases hjk : j = k
      case pos =>
        subst hjk
        have t1 : ((j : Int) != (j : Int)) = false := by simp
        go_wp2_with fail
        go_roundw
        case rel => exact ⟨j + 1, by omega, by go_num, U, Lib.hid (by show Texts _ _ _; rw [less_same]; exact HL9.out), N9⟩
        case measure => simp [intOf]; omega
      have t1 : ((j : Int) != (k : Int)) = true := by simp; omega
      have HT1 : Hid (ntTake (lessAt (A.take k ++ A.drop (k + 1)) k j) 0 = (p, lessAt (A.take k ++ A.drop (k + 1)) k (j + 1), 0)) := Lib.hid (by rw [← HP.out]; exact less_head HK.out HJA.out hjk)
      have hbl : (lessAt (A.take k ++ A.drop (k + 1)) k j).length ≤ 1000 := Nat.le_trans (less_len _ _) (by rw [hB.out]; omega)
      clear hjk
      go_wp2_with fail
      refine (ntake_any HL9.out hbl 0 HT1).mono ?_
      rintro e w8 ⟨u2, rfl, hu, hb⟩
      have U2 := Lib.hid hu
      have U1 := Lib.hid (U.out.later hb)
      replace c := cellLaterZ c hb
      have N8 := Lib.hid (below2Z N9.out hb)
      clear hu hb
      go_wp2_with fail
      go_roundw
      case rel => exact ⟨j + 1, by omega, by go_num, U1, U2, N8⟩
      case measure => simp [intOf]; omega
    obtain hjn : j = n + 1 := by omega
    have HR0 := HR.out
    have HL0 := HL.out
    rw [hjn, ← HNN.out, List.drop_length] at HR0
    rw [hjn, ← HNN.out, less_end HK.out] at HL0
    obtain ⟨ra, rc, rfl, _⟩ := HR0
    obtain ⟨lla, llc, rfl, _⟩ := HL0
    clear HR HL
    replace HB := Lib.hid (below2Z HB.out HN.out)
    go_wp2_with fail
    refine (live22 _).mono ?_
    rintro e w901 ⟨rfl, b901⟩
    replace HB := Lib.hid (below2Z HB.out b901)
    clear b901
    go_wp2_with fail
    go_ret
    exact ⟨rfl, HB.out⟩

set_option maxHeartbeats 3200000 in
set_option maxRecDepth 1000000 in
theorem ntk_no1 {w : World} {v u : Value} {ls ms : List (List UInt8)} (h : Texts w v ls) (k0 : Texts w u ms) (hf1 : fewN 30 100 ls = false) (i : Int) :
    Calls Try.prog 6 #[v, u, .int .i64 i] w fun e w' => e = .returned (.bool true) ∧ Below w.heap.size w w' := by
  have HB := Lib.hid (Below.refl w.heap.size w)
  have H := Lib.hid h
  have K := Lib.hid k0
  have F1 := Lib.hid hf1
  go_enter Try.func6, Try.ntmps6
  go_wp2_with fail
  refine (fewN_eq H.out 30 100 F1).mono ?_
  rintro e w1 ⟨rfl, b1⟩
  replace H := Lib.hid (H.out.later b1)
  replace K := Lib.hid (K.out.later b1)
  replace HB := Lib.hid (below2Z HB.out b1)
  clear b1
  go_wp2_with fail
  refine (live22 _).mono ?_
  rintro e w2 ⟨rfl, b2⟩
  replace H := Lib.hid (H.out.later b2)
  replace K := Lib.hid (K.out.later b2)
  replace HB := Lib.hid (below2Z HB.out b2)
  clear b2
  go_wp2_with fail
  go_ret
  exact ⟨rfl, HB.out⟩

set_option maxHeartbeats 3200000 in
set_option maxRecDepth 1000000 in
theorem ntk_no2 {w : World} {v u : Value} {ls ms : List (List UInt8)} (h : Texts w v ls) (k0 : Texts w u ms) (hf1 : fewN 30 100 ls = true) (hf2 : fewN 30 100 ms = false) (i : Int) :
    Calls Try.prog 6 #[v, u, .int .i64 i] w fun e w' => e = .returned (.bool true) ∧ Below w.heap.size w w' := by
  have HB := Lib.hid (Below.refl w.heap.size w)
  have H := Lib.hid h
  have K := Lib.hid k0
  have F1 := Lib.hid hf1
  have F2 := Lib.hid hf2
  go_enter Try.func6, Try.ntmps6
  go_wp2_with fail
  refine (fewN_eq H.out 30 100 F1).mono ?_
  rintro e w1 ⟨rfl, b1⟩
  replace H := Lib.hid (H.out.later b1)
  replace K := Lib.hid (K.out.later b1)
  replace HB := Lib.hid (below2Z HB.out b1)
  clear b1
  go_wp2_with fail
  refine (fewN_eq K.out 30 100 F2).mono ?_
  rintro e w2 ⟨rfl, b2⟩
  replace H := Lib.hid (H.out.later b2)
  replace K := Lib.hid (K.out.later b2)
  replace HB := Lib.hid (below2Z HB.out b2)
  clear b2
  go_wp2_with fail
  refine (live22 _).mono ?_
  rintro e w3 ⟨rfl, b3⟩
  replace H := Lib.hid (H.out.later b3)
  replace K := Lib.hid (K.out.later b3)
  replace HB := Lib.hid (below2Z HB.out b3)
  clear b3
  go_wp2_with fail
  go_ret
  exact ⟨rfl, HB.out⟩

theorem walkNetTakes {w : World} (a : Option Addr) (len cap : Nat) (zs : List ByteArray) (h : IsStrs w a len cap zs) (a' : Option Addr) (len' cap' : Nat) (zs' : List ByteArray) (h' : IsStrs w a' len' cap' zs') (i : Int) (_ : (Lit.int .i64 i).wf = true) :
    Calls Try.prog 6 #[.slice a len cap, .slice a' len' cap', .int .i64 i] w fun e w' => e = .returned (.bool true) ∧ Below w.heap.size w w' := by
  obtain ⟨ls, h1, _, _⟩ := texts_of_strs h
  obtain ⟨ms, h2, _, _⟩ := texts_of_strs h'
  cases hf1 : fewN 30 100 ls with
  | false => exact ntk_no1 h1 h2 hf1 i
  | true =>
    cases hf2 : fewN 30 100 ms with
    | false => exact ntk_no2 h1 h2 hf1 hf2 i
    | true =>
      have hl := (fewN_yes hf1).1
      have hm := (fewN_yes hf2).1
      have hlen : (ls ++ ms).length ≤ 60 := by rw [List.length_append]; omega
      by_cases hi : ntIn (ls ++ ms).length i
      · obtain ⟨k, rfl, hk⟩ := in_nat hi
        exact ntk_in h1 h2 (Lib.hid rfl) (Lib.hid hf1) (Lib.hid hf2) hl hm (by omega) k hk hlen (Lib.hid (ntTwice_yes hk (by omega))) (Lib.hid (ntTake_yes hk))
      · exact ntk_out h1 h2 (Lib.hid rfl) (Lib.hid hf1) (Lib.hid hf2) hl hm (by omega) i hi (Lib.hid (ntTwice_no hi)) (Lib.hid (ntTake_no hi))

end Go.Proofs.Ytlebgpgcklfhaaa
