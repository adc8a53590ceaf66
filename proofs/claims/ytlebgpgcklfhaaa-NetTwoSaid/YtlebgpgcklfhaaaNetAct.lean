/-
  LAYER 22: Act of the code and of the document.
-/
import Derived.Test.YtlebgpgcklfhaaaNetCor
namespace Go.Proofs.Ytlebgpgcklfhaaa
open Go.RowKit

set_option maxHeartbeats 1600000 in
set_option maxRecDepth 100000 in
theorem nact_any {w : World} {v : Value} {ls : List (List UInt8)} (h : Texts w v ls) (hl : ls.length ≤ 1000) (hx : ∀ t ∈ ls, t.length ≤ 1000000) (kk ek : Int) (eu eo : List UInt8) (ei ea eb ed : Int) (es ho : List UInt8) (ii mm : Int) (_hmm : mm ≤ 9223372036854775807) (by_ : List UInt8)
    {r : List (List UInt8)} {x : List UInt8} {e : Nat} (hr : Hid (ntAct ls kk ii mm = (r, x, e))) :
    Calls Try.prog 10 #[v, .agg #[.int .i64 kk, .int .i64 ek, .string ⟨eu.toArray⟩, .string ⟨eo.toArray⟩, .int .i64 ei, .int .i64 ea, .int .i64 eb, .int .i64 ed, .string ⟨es.toArray⟩, .string ⟨ho.toArray⟩, .int .i64 ii, .int .i64 mm, .string ⟨by_.toArray⟩]] w fun e' w' => ∃ u, e' = .returned (.tuple #[u, .string ⟨x.toArray⟩, .int .i64 e]) ∧ Texts w' u r ∧ Below w.heap.size w w' := by
  have HX := Lib.hid hx
  have HV := Lib.hid (h.later (bl_newZ w (.cells #[.int .i64 kk, .int .i64 ek, .string ⟨eu.toArray⟩, .string ⟨eo.toArray⟩, .int .i64 ei, .int .i64 ea, .int .i64 eb, .int .i64 ed, .string ⟨es.toArray⟩, .string ⟨ho.toArray⟩, .int .i64 ii, .int .i64 mm, .string ⟨by_.toArray⟩] 28)))
  have HN := Lib.hid (bl_newZ w (.cells #[.int .i64 kk, .int .i64 ek, .string ⟨eu.toArray⟩, .string ⟨eo.toArray⟩, .int .i64 ei, .int .i64 ea, .int .i64 eb, .int .i64 ed, .string ⟨es.toArray⟩, .string ⟨ho.toArray⟩, .int .i64 ii, .int .i64 mm, .string ⟨by_.toArray⟩] 28))
  have HC := Lib.hid (cellsAt_made (w := w) (cs := #[.int .i64 kk, .int .i64 ek, .string ⟨eu.toArray⟩, .string ⟨eo.toArray⟩, .int .i64 ei, .int .i64 ea, .int .i64 eb, .int .i64 ed, .string ⟨es.toArray⟩, .string ⟨ho.toArray⟩, .int .i64 ii, .int .i64 mm, .string ⟨by_.toArray⟩]) (vs := [.int .i64 kk, .int .i64 ek, .string ⟨eu.toArray⟩, .string ⟨eo.toArray⟩, .int .i64 ei, .int .i64 ea, .int .i64 eb, .int .i64 ed, .string ⟨es.toArray⟩, .string ⟨ho.toArray⟩, .int .i64 ii, .int .i64 mm, .string ⟨by_.toArray⟩]) rfl 28 rfl)
  obtain ⟨ad, cap, rfl, _, _, _, _⟩ := h
  have hr' := hr.out
  unfold ntAct at hr'
  clear hr hx
  by_cases h5 : kk = 5
  · subst h5
    rw [if_pos rfl] at hr'
    obtain ⟨t1, t2, t3, t4⟩ : ∃ t1 t2 t3, ntTake ls ii = (t1, t2, t3) := ⟨_, _, _, rfl⟩
    rw [t4] at hr'
    simp only [Prod.mk.injEq] at hr'
    obtain ⟨rfl, rfl, rfl⟩ := hr'
    have HT := Lib.hid t4
    clear t4
    go_enter Try.func10, Try.ntmps10
    go_wp2_with fail
    go_step3
    go_wp2_with fail
    go_step3
    go_wp2_with fail
    refine (ntake_any HV.out hl ii HT).mono ?_
    rintro e w1 ⟨u, rfl, ht, hb⟩
    have H1 := Lib.hid ht
    have H2 := Lib.hid (below2Z HN.out hb)
    have hk0 := HC.out.later hb 0 _ rfl
    rw [Nat.zero_add] at hk0
    clear ht hb
    go_wp2_with fail
    simp only [Exit.noGoto]
    go_ret3
    exact ⟨_, rfl, H1.out, H2.out⟩
  by_cases h6 : kk = 6
  · subst h6
    rw [if_neg h5, if_pos rfl] at hr'
    obtain ⟨t1, t2, t3, t4⟩ : ∃ t1 t2 t3, ntTake ls ii = (t1, t2, t3) := ⟨_, _, _, rfl⟩
    rw [t4] at hr'
    simp only [Prod.mk.injEq] at hr'
    obtain ⟨rfl, rfl, rfl⟩ := hr'
    have HT := Lib.hid t4
    clear t4 h5
    go_enter Try.func10, Try.ntmps10
    go_wp2_with fail
    go_step3
    go_wp2_with fail
    go_step3
    go_wp2_with fail
    refine (ntake_any HV.out hl ii HT).mono ?_
    rintro e w1 ⟨u, rfl, ht, hb⟩
    have H1 := Lib.hid ht
    have H2 := Lib.hid (below2Z HN.out hb)
    have hk0 := HC.out.later hb 0 _ rfl
    rw [Nat.zero_add] at hk0
    clear ht hb
    go_wp2_with fail
    simp only [Exit.noGoto]
    go_ret3
    exact ⟨_, rfl, H1.out, H2.out⟩
  by_cases h7 : kk = 7
  · subst h7
    rw [if_neg h5, if_neg h6, if_pos rfl] at hr'
    obtain ⟨t1, t2, t4⟩ : ∃ t1 t2, ntTwice ls ii = (t1, t2) := ⟨_, _, rfl⟩
    rw [t4] at hr'
    simp only [Prod.mk.injEq] at hr'
    obtain ⟨rfl, rfl, rfl⟩ := hr'
    have HT := Lib.hid t4
    clear t4 h5 h6
    go_enter Try.func10, Try.ntmps10
    go_wp2_with fail
    go_step3
    go_wp2_with fail
    go_step3
    go_wp2_with fail
    refine (ntwice_any HV.out ii HT).mono ?_
    rintro e w1 ⟨u, rfl, ht, hb⟩
    have H1 := Lib.hid ht
    have H2 := Lib.hid (below2Z HN.out hb)
    clear ht hb
    go_wp2_with fail
    simp only [Exit.noGoto]
    go_ret3
    exact ⟨_, rfl, H1.out, H2.out⟩
  have e5 : (kk == 5) = false := by simpa using h5
  have e6 : (kk == 6) = false := by simpa using h6
  have e7 : (kk == 7) = false := by simpa using h7
  by_cases h8 : kk = 8
  · subst h8
    rw [if_neg h5, if_neg h6, if_neg h7, if_pos rfl] at hr'
    obtain ⟨t1, t2, t4⟩ : ∃ t1 t2, ntCor ls ii (mm / 256) (mm % 256) = (t1, t2) := ⟨_, _, rfl⟩
    rw [t4] at hr'
    simp only [Prod.mk.injEq] at hr'
    obtain ⟨rfl, rfl, rfl⟩ := hr'
    have HT := Lib.hid t4
    have hand := i64_and255 mm
    clear t4 h5 h6 h7
    go_enter Try.func10, Try.ntmps10
    go_wp2_with fail
    go_step3
    go_wp2_with fail
    go_step3
    go_wp2_with fail
    refine (ncor_any HV.out hl HX.out ii (mm / 256) (mm % 256) HT).mono ?_
    rintro e w1 ⟨u, rfl, ht, hb⟩
    have H1 := Lib.hid ht
    have H2 := Lib.hid (below2Z HN.out hb)
    clear ht hb
    go_wp2_with fail
    simp only [Exit.noGoto]
    go_ret3
    exact ⟨_, rfl, H1.out, H2.out⟩
  · have e8 : (kk == 8) = false := by simpa using h8
    rw [if_neg h5, if_neg h6, if_neg h7, if_neg h8] at hr'
    simp only [Prod.mk.injEq] at hr'
    obtain ⟨rfl, rfl, rfl⟩ := hr'
    clear h5 h6 h7 h8
    go_enter Try.func10, Try.ntmps10
    go_wp2_with fail
    go_step3
    go_wp2_with fail
    go_step3
    go_wp2_with fail
    simp only [Exit.noGoto]
    go_ret3
    exact ⟨_, rfl, HV.out, HN.out⟩

set_option maxHeartbeats 1600000 in
set_option maxRecDepth 100000 in
theorem nract_any {w : World} {v : Value} {ls : List (List UInt8)} (h : Texts w v ls) (hl : ls.length ≤ 1000) (hx : ∀ t ∈ ls, t.length ≤ 1000000) (kk ek : Int) (eu eo : List UInt8) (ei ea eb ed : Int) (es ho : List UInt8) (ii mm : Int) (hmm : mm ≤ 9223372036854775807) (by_ : List UInt8)
    {r : List (List UInt8)} {x : List UInt8} {e : Nat} (hr : Hid (ntAct ls kk ii mm = (r, x, e))) :
    Calls Try.prog 11 #[v, .agg #[.int .i64 kk, .int .i64 ek, .string ⟨eu.toArray⟩, .string ⟨eo.toArray⟩, .int .i64 ei, .int .i64 ea, .int .i64 eb, .int .i64 ed, .string ⟨es.toArray⟩, .string ⟨ho.toArray⟩, .int .i64 ii, .int .i64 mm, .string ⟨by_.toArray⟩]] w fun e' w' => ∃ u, e' = .returned (.tuple #[u, .string ⟨x.toArray⟩, .int .i64 e]) ∧ Texts w' u r ∧ Below w.heap.size w w' := by
  have HX := Lib.hid hx
  have HV := Lib.hid (h.later (bl_newZ w (.cells #[.int .i64 kk, .int .i64 ek, .string ⟨eu.toArray⟩, .string ⟨eo.toArray⟩, .int .i64 ei, .int .i64 ea, .int .i64 eb, .int .i64 ed, .string ⟨es.toArray⟩, .string ⟨ho.toArray⟩, .int .i64 ii, .int .i64 mm, .string ⟨by_.toArray⟩] 28)))
  have HN := Lib.hid (bl_newZ w (.cells #[.int .i64 kk, .int .i64 ek, .string ⟨eu.toArray⟩, .string ⟨eo.toArray⟩, .int .i64 ei, .int .i64 ea, .int .i64 eb, .int .i64 ed, .string ⟨es.toArray⟩, .string ⟨ho.toArray⟩, .int .i64 ii, .int .i64 mm, .string ⟨by_.toArray⟩] 28))
  have HC := Lib.hid (cellsAt_made (w := w) (cs := #[.int .i64 kk, .int .i64 ek, .string ⟨eu.toArray⟩, .string ⟨eo.toArray⟩, .int .i64 ei, .int .i64 ea, .int .i64 eb, .int .i64 ed, .string ⟨es.toArray⟩, .string ⟨ho.toArray⟩, .int .i64 ii, .int .i64 mm, .string ⟨by_.toArray⟩]) (vs := [.int .i64 kk, .int .i64 ek, .string ⟨eu.toArray⟩, .string ⟨eo.toArray⟩, .int .i64 ei, .int .i64 ea, .int .i64 eb, .int .i64 ed, .string ⟨es.toArray⟩, .string ⟨ho.toArray⟩, .int .i64 ii, .int .i64 mm, .string ⟨by_.toArray⟩]) rfl 28 rfl)
  obtain ⟨ad, cap, rfl, _, _, _, _⟩ := h
  have hr' := hr.out
  unfold ntAct at hr'
  clear hr hx
  by_cases h5 : kk = 5
  · subst h5
    rw [if_pos rfl] at hr'
    obtain ⟨t1, t2, t3, t4⟩ : ∃ t1 t2 t3, ntTake ls ii = (t1, t2, t3) := ⟨_, _, _, rfl⟩
    rw [t4] at hr'
    simp only [Prod.mk.injEq] at hr'
    obtain ⟨rfl, rfl, rfl⟩ := hr'
    have HT := Lib.hid t4
    clear t4
    go_enter Try.func11, Try.ntmps11
    go_wp2_with fail
    refine (nrtake_any HV.out hl ii HT).mono ?_
    rintro e w1 ⟨u, rfl, ht, hb⟩
    have H1 := Lib.hid ht
    have H2 := Lib.hid (below2Z HN.out hb)
    clear ht hb
    go_wp2_with fail
    go_ret3
    exact ⟨_, rfl, H1.out, H2.out⟩
  by_cases h6 : kk = 6
  · subst h6
    rw [if_neg h5, if_pos rfl] at hr'
    obtain ⟨t1, t2, t3, t4⟩ : ∃ t1 t2 t3, ntTake ls ii = (t1, t2, t3) := ⟨_, _, _, rfl⟩
    rw [t4] at hr'
    simp only [Prod.mk.injEq] at hr'
    obtain ⟨rfl, rfl, rfl⟩ := hr'
    have HT := Lib.hid t4
    clear t4 h5
    go_enter Try.func11, Try.ntmps11
    go_wp2_with fail
    refine (nrdrop_any HV.out hl ii HT).mono ?_
    rintro e w1 ⟨u, rfl, ht, hb⟩
    have H1 := Lib.hid ht
    have H2 := Lib.hid (below2Z HN.out hb)
    clear ht hb
    go_wp2_with fail
    go_ret3
    exact ⟨_, rfl, H1.out, H2.out⟩
  by_cases h7 : kk = 7
  · subst h7
    rw [if_neg h5, if_neg h6, if_pos rfl] at hr'
    obtain ⟨t1, t2, t4⟩ : ∃ t1 t2, ntTwice ls ii = (t1, t2) := ⟨_, _, rfl⟩
    rw [t4] at hr'
    simp only [Prod.mk.injEq] at hr'
    obtain ⟨rfl, rfl, rfl⟩ := hr'
    have HT := Lib.hid t4
    clear t4 h5 h6
    go_enter Try.func11, Try.ntmps11
    go_wp2_with fail
    refine (nrtwice_any HV.out ii HT).mono ?_
    rintro e w1 ⟨u, rfl, ht, hb⟩
    have H1 := Lib.hid ht
    have H2 := Lib.hid (below2Z HN.out hb)
    clear ht hb
    go_wp2_with fail
    go_ret3
    exact ⟨_, rfl, H1.out, H2.out⟩
  have e5 : (kk == 5) = false := by simpa using h5
  have e6 : (kk == 6) = false := by simpa using h6
  have e7 : (kk == 7) = false := by simpa using h7
  by_cases h8 : kk = 8
  · subst h8
    rw [if_neg h5, if_neg h6, if_neg h7, if_pos rfl] at hr'
    by_cases hm : mm < 0
    · have t0 : decide (mm < 0) = true := by simp; omega
      by_cases hi : ntIn ls.length ii
      · have hbad : ntCor ls ii (mm / 256) (mm % 256) = (ls, 1) := by
          obtain ⟨k, rfl, hk⟩ := in_nat hi
          exact ntCor_bad hk (.inr (.inl (by omega)))
        rw [hbad] at hr'
        simp only [Prod.mk.injEq] at hr'
        obtain ⟨rfl, rfl, rfl⟩ := hr'
        obtain ⟨k, rfl, hk⟩ := in_nat hi
        have t1 : decide ((k : Int) < 0) = false := by simp
        have t2 : decide ((ls.length : Int) ≤ (k : Int)) = false := by simp; omega
        clear hbad hi h5 h6 h7
        go_enter Try.func11, Try.ntmps11
        go_wp2_with fail
        go_ret3
        exact ⟨_, rfl, HV.out, HN.out⟩
      · have hno : ntCor ls ii (mm / 256) (mm % 256) = (ls, 6) := ntCor_no hi
        rw [hno] at hr'
        simp only [Prod.mk.injEq] at hr'
        obtain ⟨rfl, rfl, rfl⟩ := hr'
        clear hno h5 h6 h7
        unfold ntIn at hi
        by_cases h0 : ii < 0
        · have t1 : decide (ii < 0) = true := by simp; omega
          clear hi
          go_enter Try.func11, Try.ntmps11
          go_wp2_with fail
          go_ret3
          exact ⟨_, rfl, HV.out, HN.out⟩
        · have t1 : decide (ii < 0) = false := by simp; omega
          have t2 : decide ((ls.length : Int) ≤ ii) = true := by simp; omega
          clear hi
          go_enter Try.func11, Try.ntmps11
          go_wp2_with fail
          go_ret3
          exact ⟨_, rfl, HV.out, HN.out⟩
    · have t0 : decide (mm < 0) = false := by simp; omega
      obtain ⟨m, rfl⟩ := Int.eq_ofNat_of_zero_le (show 0 ≤ mm by omega)
      obtain ⟨t1, t2, t4⟩ : ∃ t1 t2, ntCor ls ii ((m : Int) / 256) ((m : Int) % 256) = (t1, t2) := ⟨_, _, rfl⟩
      rw [t4] at hr'
      simp only [Prod.mk.injEq] at hr'
      obtain ⟨rfl, rfl, rfl⟩ := hr'
      obtain ⟨d1, hd1, hd3⟩ : ∃ d : Int, (m : Int).tdiv 256 = d ∧ (m : Int) / 256 = d := ⟨_, rfl, rfl⟩
      obtain ⟨d2, hd2, hd4⟩ : ∃ d : Int, (m : Int).tmod 256 = d ∧ (m : Int) % 256 = d := ⟨_, rfl, rfl⟩
      rw [hd3, hd4] at t4
      have hw1 : IntKind.i64.wrap d1 = d1 := IntWalk.i64_in _ (by omega)
      have hb1 : -9223372036854775808 ≤ d1 := by omega
      have hb2 : d1 ≤ 9223372036854775807 := by omega
      have HT := Lib.hid t4
      clear t4 h5 h6 h7 hm
      go_enter Try.func11, Try.ntmps11
      go_wp2_with fail
      refine (nrcor_any HV.out hl HX.out ii d1 d2 HT).mono ?_
      rintro e w1 ⟨u, rfl, ht, hb⟩
      have H1 := Lib.hid ht
      have H2 := Lib.hid (below2Z HN.out hb)
      clear ht hb
      go_wp2_with fail
      go_ret3
      exact ⟨_, rfl, H1.out, H2.out⟩
  · have e8 : (kk == 8) = false := by simpa using h8
    rw [if_neg h5, if_neg h6, if_neg h7, if_neg h8] at hr'
    simp only [Prod.mk.injEq] at hr'
    obtain ⟨rfl, rfl, rfl⟩ := hr'
    clear h5 h6 h7 h8
    go_enter Try.func11, Try.ntmps11
    go_wp2_with fail
    go_ret3
    exact ⟨_, rfl, HV.out, HN.out⟩

end Go.Proofs.Ytlebgpgcklfhaaa
