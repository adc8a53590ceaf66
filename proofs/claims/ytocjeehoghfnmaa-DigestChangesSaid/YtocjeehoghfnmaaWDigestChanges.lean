/-
  THE WALK OF DigestChanges, out of the contracts.
-/
import Derived.Test.YtocjeehoghfnmaaDigLive
import Derived.Test.YtocjeehoghfnmaaDigRmay
import Derived.Test.YtocjeehoghfnmaaDigBox
import Derived.Test.YtocjeehoghfnmaaDigFrame
namespace Go.Proofs.Ytocjeehoghfnmaa
open Go.RowKit

/-- All but the one at k. -/
def skipK (l : List Chg) (k : Int) : List Chg := if k < 0 then l else l.eraseIdx k.toNat

theorem skip_len (l : List Chg) (k : Int) : (skipK l k).length ≤ l.length := by
  unfold skipK
  split
  · exact Nat.le_refl _
  · rw [List.length_eraseIdx]
    split <;> omega

theorem skip_out {l : List Chg} {k : Int} (h : k < 0 ∨ (l.length : Int) ≤ k) : skipK l k = l := by
  unfold skipK
  split
  · rfl
  · exact List.eraseIdx_of_length_le (by omega)

theorem skip_in {l : List Chg} {k : Int} (h0 : 0 ≤ k) : skipK l k = l.eraseIdx k.toNat := by
  unfold skipK
  rw [if_neg (by omega)]

theorem skip_same {l : List Chg} {i : Nat} {k : Int} (hi : i < l.length) (h : (i : Int) = k) : skipK (l.take (i + 1)) k = skipK (l.take i) k := by
  subst h
  rw [skip_in (by omega), skip_in (by omega), Int.toNat_natCast, List.take_succ_eq_append_getElem hi, List.eraseIdx_append_of_length_le (by rw [List.length_take]; omega)]
  have e1 : i - (l.take i).length = 0 := by rw [List.length_take]; omega
  rw [e1]
  show l.take i ++ [] = _
  rw [List.append_nil, List.eraseIdx_of_length_le (by rw [List.length_take]; omega)]

theorem skip_other {l : List Chg} {i : Nat} {k : Int} (hi : i < l.length) (h : ¬ (i : Int) = k) : skipK (l.take (i + 1)) k = skipK (l.take i) k ++ [l.getD i Chg.zero] := by
  rw [List.take_succ_eq_append_getElem hi, chg_get' hi]
  by_cases hk : k < 0
  · rw [skip_out (.inl hk), skip_out (.inl hk)]
  · rw [skip_in (by omega), skip_in (by omega)]
    by_cases hlt : k.toNat < i
    · rw [List.eraseIdx_append_of_lt_length (by rw [List.length_take]; omega)]
    · rw [List.eraseIdx_of_length_le (by rw [List.length_append, List.length_take]; simp; omega), List.eraseIdx_of_length_le (by rw [List.length_take]; omega)]

theorem setAll_take {t : List Row} {l : List Chg} {i : Nat} (hi : i < l.length) : setAll t (l.take (i + 1)) = diSet (setAll t (l.take i)) (l.getD i Chg.zero) := by
  rw [List.take_succ_eq_append_getElem hi, chg_get' hi, setAll_snoc]

theorem apart_at (a b : List Row) {j i : Nat} (hj : j < i) (hi : i < (diChanges a b).length) : ¬ ((diChanges a b).getD j Chg.zero).c = ((diChanges a b).getD i Chg.zero).c := by
  have := List.pairwise_iff_getElem.1 (changes_apart a b) j i (by omega) hi hj
  rwa [chg_get', chg_get'] at this

set_option maxHeartbeats 3200000 in
set_option maxRecDepth 1000000 in
theorem digestChanges_out {w : World} {va vb : Value} {a b : List Row} (ha : Tab w va a) (hb : Tab w vb b) (k : Int)
    (h : fewT a = false ∨ (fewT a = true ∧ fewT b = false) ∨ (fewT a = true ∧ fewT b = true ∧ diMay a = false) ∨ (fewT a = true ∧ fewT b = true ∧ diMay a = true ∧ diMay b = false)) :
    Calls Try.prog 7 #[va, vb, .int .i64 k] w fun e w' => e = .returned (.bool true) ∧ Below w.heap.size w w' := by
  have HA := Lib.hid ha
  have HB := Lib.hid hb
  clear ha hb
  rcases h with h | ⟨h1, h⟩ | ⟨h1, h2, h⟩ | ⟨h1, h2, h3, h⟩
  · have H1 := Lib.hid h
    clear h
    go_enter Try.func7, Try.ntmps7
    go_wp2_with fail
    refine (fewt_eq HA.out H1).mono ?_
    rintro e w1 ⟨rfl, rfl⟩
    go_wp2_with fail
    refine (live5 _).mono ?_
    rintro e w1 ⟨rfl, b⟩
    go_wp2_with fail
    go_ret
    exact ⟨rfl, b⟩
  all_goals
    have H1 := Lib.hid h1
    have SA := Lib.hid (fewT_short h1)
    clear h1
  · have H2 := Lib.hid h
    clear h
    go_enter Try.func7, Try.ntmps7
    go_wp2_with fail
    refine (fewt_eq HA.out H1).mono ?_
    rintro e w1 ⟨rfl, rfl⟩
    go_wp2_with fail
    refine (fewt_eq HB.out H2).mono ?_
    rintro e w1 ⟨rfl, rfl⟩
    go_wp2_with fail
    refine (live5 _).mono ?_
    rintro e w1 ⟨rfl, b⟩
    go_wp2_with fail
    go_ret
    exact ⟨rfl, b⟩
  all_goals
    have H2 := Lib.hid h2
    have SB := Lib.hid (fewT_short h2)
    clear h2
  · have H3 := Lib.hid h
    clear h
    go_enter Try.func7, Try.ntmps7
    go_wp2_with fail
    refine (fewt_eq HA.out H1).mono ?_
    rintro e w1 ⟨rfl, rfl⟩
    go_wp2_with fail
    refine (fewt_eq HB.out H2).mono ?_
    rintro e w1 ⟨rfl, rfl⟩
    go_wp2_with fail
    refine (rdimay_eq HA.out SA.out H3).mono ?_
    rintro e w1 ⟨rfl, b⟩
    have B1 := Lib.hid b
    clear b
    go_wp2_with fail
    refine (live5 _).mono ?_
    rintro e w2 ⟨rfl, b⟩
    have B2 := Lib.hid (below2' B1.out b)
    clear b B1
    go_wp2_with fail
    go_ret
    exact ⟨rfl, B2.out⟩
  · have H3 := Lib.hid h3
    have H4 := Lib.hid h
    clear h h3
    go_enter Try.func7, Try.ntmps7
    go_wp2_with fail
    refine (fewt_eq HA.out H1).mono ?_
    rintro e w1 ⟨rfl, rfl⟩
    go_wp2_with fail
    refine (fewt_eq HB.out H2).mono ?_
    rintro e w1 ⟨rfl, rfl⟩
    go_wp2_with fail
    refine (rdimay_eq HA.out SA.out H3).mono ?_
    rintro e w1 ⟨rfl, b⟩
    have B1 := Lib.hid b
    clear b
    go_wp2_with fail
    refine (rdimay_eq (HB.out.later B1.out) SB.out H4).mono ?_
    rintro e w2 ⟨rfl, b⟩
    have B2 := Lib.hid (below2' B1.out b)
    clear b B1
    go_wp2_with fail
    refine (live5 _).mono ?_
    rintro e w3 ⟨rfl, b⟩
    have B3 := Lib.hid (below2' B2.out b)
    clear b B2
    go_wp2_with fail
    go_ret
    exact ⟨rfl, B3.out⟩

set_option maxHeartbeats 6400000 in
set_option maxRecDepth 1000000 in
theorem digestChanges_in {w : World} {va vb : Value} {a b : List Row} (ha : Tab w va a) (hb : Tab w vb b) (k : Int) (h1 : fewT a = true) (h2 : fewT b = true) (h3 : diMay a = true) (h4 : diMay b = true) :
    Calls Try.prog 7 #[va, vb, .int .i64 k] w fun e w' => e = .returned (.bool true) ∧ Below w.heap.size w w' := by
  have HA := Lib.hid ha
  have HB := Lib.hid hb
  have H1 := Lib.hid h1
  have H2 := Lib.hid h2
  have H3 := Lib.hid h3
  have H4 := Lib.hid h4
  have SA := Lib.hid (fewT_short h1)
  have SB := Lib.hid (fewT_short h2)
  have la := (fewT_yes h1).1
  have lb := (fewT_yes h2).1
  have HEnd := Lib.hid (changes_make (diMay_iff.1 h3).2.2 (diMay_iff.1 h4).2.2)
  have HSelf := Lib.hid (changes_self a)
  have hcl := changes_len a b
  have hml := mrg_len (cts a ++ cts b)
  rw [List.length_append, cts_len, cts_len] at hml
  have HAp : Hid (∀ {j i : Nat}, j < i → i < (diChanges a b).length → ¬ ((diChanges a b).getD j Chg.zero).c = ((diChanges a b).getD i Chg.zero).c) := Lib.hid fun hj hi => apart_at a b hj hi
  have HLess : Hid (∀ {i : Nat}, i < (diChanges a b).length → ¬ setAll a ((diChanges a b).eraseIdx i) = b) := Lib.hid fun hi => changes_less hi
  have HC : Hid (∀ {w' : World} {va vb : Value}, Tab w' va a → Tab w' vb b → Calls Try.prog 31 #[va, vb] w' fun e w'' => ∃ v, e = .returned v ∧ Chgs w'' v (diChanges a b) ∧ Below w'.heap.size w' w'') := Lib.hid fun ha hb => changes_any ha hb SA.out SB.out (by omega) (by omega)
  obtain ⟨ch, hch⟩ : ∃ ch, diChanges a b = ch := ⟨_, rfl⟩
  rw [hch] at HEnd hcl HAp HLess HC
  have hlen : ch.length ≤ 80 := by omega
  clear ha hb h1 h2 h3 h4 hch hcl hml
  go_enter Try.func7, Try.ntmps7
  go_wp2_with fail
  refine (fewt_eq HA.out H1).mono ?_
  rintro e w1 ⟨rfl, rfl⟩
  go_wp2_with fail
  refine (fewt_eq HB.out H2).mono ?_
  rintro e w1 ⟨rfl, rfl⟩
  go_wp2_with fail
  refine (rdimay_eq HA.out SA.out H3).mono ?_
  rintro e w1 ⟨rfl, b⟩
  have B1 := Lib.hid b
  clear b
  go_wp2_with fail
  refine (rdimay_eq (HB.out.later B1.out) SB.out H4).mono ?_
  rintro e w2 ⟨rfl, b⟩
  have B2 := Lib.hid (below2' B1.out b)
  clear b B1
  go_wp2_with fail
  refine (HC.out (HA.out.later B2.out) (HB.out.later B2.out)).mono ?_
  rintro e w3 ⟨u, rfl, hu, b⟩
  have B3 := Lib.hid (below2' B2.out b)
  have A3 := Lib.hid (HA.out.later B3.out)
  have HU := Lib.hid hu
  obtain ⟨ac, cc, rfl, _⟩ := hu.open'
  clear b B2 hu HC
  go_wp2_with fail
  go_loopw [8, 9, 10] (fun all but i wr => ∃ n : Nat, n ≤ ch.length ∧ i = .int .i64 n ∧ Hid (Tab wr all (setAll a (ch.take n))) ∧ Hid (Tab wr but (setAll a (skipK (ch.take n) k))) ∧ Hid (Below w3.heap.size w3 wr)) (fun _ _ i _ => ch.length - (intOf i).toNat)
  case atStart => exact ⟨0, by omega, rfl, by show Tab _ _ _; rw [List.take_zero]; exact A3.out, by show Tab _ _ _; rw [List.take_zero, show skipK [] k = [] by unfold skipK; split <;> simp]; exact A3.out, Below.refl _ _⟩
  case round =>
    obtain ⟨w0, hw0⟩ : ∃ w0, w0 = wr := ⟨_, rfl⟩
    subst hw0
    obtain ⟨n, hn, rfl, TA, TB, HN⟩ := hrel
    by_cases hlt : n < ch.length
    · go_wp2_with fail
      go_loopw [11] (fun j wr => ∃ m : Nat, m ≤ n ∧ j = .int .i64 m ∧ Hid (Below w0.heap.size w0 wr)) (fun j _ => n - (intOf j).toNat)
      case atStart => exact ⟨0, by omega, rfl, Below.refl _ _⟩
      case round =>
        obtain ⟨m, hm, rfl, HM⟩ := hrel
        have HNM := Lib.hid (below2' HN.out HM.out)
        by_cases hjm : m < n
        · obtain ⟨bb, oo, rfl, c0, _⟩ := HU.out.row HNM.out m (by omega)
          obtain ⟨_, _, e0, d0, _⟩ := HU.out.row HNM.out n hlt
          injection e0 with e0
          injection e0 with e1 e2 _
          subst e1 e2
          have hne := HAp.out hjm hlt
          obtain ⟨x1, hx1⟩ : ∃ x1, (ch.getD m Chg.zero).c = x1 := ⟨_, rfl⟩
          obtain ⟨x2, hx2⟩ : ∃ x2, (ch.getD n Chg.zero).c = x2 := ⟨_, rfl⟩
          rw [hx1] at c0 hne
          rw [hx2] at d0 hne
          have t1 : (x1 == x2) = false := by simpa using hne
          have hlm : m < ch.length := by omega
          clear hx1 hx2 hne
          go_wp2_with fail
          go_region
          go_wp2_with fail
          go_roundw
          case rel => exact ⟨m + 1, by omega, by go_num, HM.out.drew⟩
          case measure => simp [intOf]; omega
        · obtain rfl : m = n := by omega
          obtain ⟨bb, oo, rfl, c0, c1, c2, c3, c4, c5⟩ := HU.out.row HNM.out m hlt
          obtain ⟨c, hc⟩ : ∃ c, ch.getD m Chg.zero = c := ⟨_, rfl⟩
          have hA := setAll_take (t := a) hlt
          rw [hc] at c0 c1 c2 c3 c4 c5 hA
          have hlA := setAll_len (ch.take m) a
          have hlB := setAll_len (skipK (ch.take m) k) a
          have hskl := skip_len (ch.take m) k
          rw [List.length_take] at hlA hskl
          have HSA : Hid (∀ {w' : World} {v' : Value}, Tab w' v' (setAll a (ch.take m)) → Calls Try.prog 28 #[v', chgAgg c] w' fun e w'' => ∃ u, e = .returned u ∧ OwnR w'' w'.heap.size u (setAll a (ch.take (m + 1))) ∧ Below w'.heap.size w' w'') := Lib.hid fun h => by rw [hA]; exact set_any h (by omega) c
          have HSB : Hid (∀ {w' : World} {v' : Value}, Tab w' v' (setAll a (skipK (ch.take m) k)) → Calls Try.prog 28 #[v', chgAgg c] w' fun e w'' => ∃ u, e = .returned u ∧ OwnR w'' w'.heap.size u (diSet (setAll a (skipK (ch.take m) k)) c) ∧ Below w'.heap.size w' w'') := Lib.hid fun h => set_any h (by omega) c
          obtain ⟨x, on, sh, pr, si, st⟩ := c
          simp only at c0 c1 c2 c3 c4 c5
          by_cases hk : (m : Int) = k
          · have HSk := Lib.hid (skip_same hlt hk)
            have t1 : ((m : Int) != k) = false := by simpa using hk
            clear hA hlA hlB hskl hc hk
            go_wp2_with fail
            refine (HSA.out (TA.out.later HM.out)).mono ?_
            rintro e w5 ⟨u5, rfl, ho, b⟩
            have B5 := Lib.hid (below2' HNM.out b)
            have T5 := Lib.hid ho.tab
            have TB5 := Lib.hid ((TB.out.later HM.out).later b)
            clear b ho
            go_wp2_with fail
            go_roundw
            case rel => exact ⟨m + 1, by omega, by go_num, T5, by rw [HSk.out]; exact TB5, B5⟩
            case measure => simp [intOf]; omega
          · have HSk : Hid (setAll a (skipK (ch.take (m + 1)) k) = diSet (setAll a (skipK (ch.take m) k)) ⟨x, on, sh, pr, si, st⟩) := Lib.hid (by rw [skip_other hlt hk, setAll_snoc, hc])
            have t1 : ((m : Int) != k) = true := by simpa using hk
            clear hA hlA hlB hskl hc hk
            go_wp2_with fail
            refine (HSA.out (TA.out.later HM.out)).mono ?_
            rintro e w5 ⟨u5, rfl, ho, b⟩
            have B5 := Lib.hid (below2' HNM.out b)
            have T5 := Lib.hid ho.tab
            have TB5 := Lib.hid ((TB.out.later HM.out).later b)
            have k0 := cell_later c0 b
            have k1 := cell_later c1 b
            have k2 := cell_later c2 b
            have k3 := cell_later c3 b
            have k4 := cell_later c4 b
            have k5 := cell_later c5 b
            clear b ho c0 c1 c2 c3 c4 c5
            go_wp2_with fail
            refine (HSB.out TB5.out).mono ?_
            rintro e w6 ⟨u6, rfl, ho, b⟩
            have B6 := Lib.hid (below2' B5.out b)
            have T6 := Lib.hid (T5.out.later b)
            have TB6 := Lib.hid ho.tab
            clear b ho k0 k1 k2 k3 k4 k5
            go_wp2_with fail
            go_roundw
            case rel => exact ⟨m + 1, by omega, by go_num, T6, by rw [HSk.out]; exact TB6, B6⟩
            case measure => simp [intOf]; omega
    · obtain rfl : n = ch.length := by omega
      have ta := TA.out
      have tb := TB.out
      rw [List.take_length] at ta tb
      rw [HEnd.out] at ta
      have TA1 := Lib.hid ta
      have TB1 := Lib.hid tb
      have B4 := Lib.hid (below2' B3.out HN.out)
      have HSa := Lib.hid (tSame_iff.2 (rfl : b = b))
      have HC2 : Hid (∀ {w' : World} {va vb : Value}, Tab w' va a → Tab w' vb a → Calls Try.prog 31 #[va, vb] w' fun e w'' => ∃ v, e = .returned v ∧ Chgs w'' v [] ∧ Below w'.heap.size w' w'') := Lib.hid fun ha hb => by have := changes_any ha hb SA.out SA.out (by omega) (by omega); rwa [HSelf.out] at this
      obtain ⟨r, hr⟩ : ∃ r, Hid (tSame (setAll a (skipK ch k)) b = r) := ⟨_, rfl⟩
      have hfin : (decide (k < 0) = true ∧ r = true) ∨ (decide (k < 0) = false ∧ decide ((ch.length : Int) ≤ k) = true ∧ r = true) ∨ (decide (k < 0) = false ∧ decide ((ch.length : Int) ≤ k) = false ∧ r = false) := by
        have h := hr.out
        by_cases hk : k < 0 ∨ (ch.length : Int) ≤ k
        · rw [skip_out hk, HEnd.out, tSame_iff.2 rfl] at h
          subst h
          by_cases h0 : k < 0
          · exact .inl ⟨decide_eq_true h0, rfl⟩
          · exact .inr (.inl ⟨decide_eq_false h0, decide_eq_true (by omega), rfl⟩)
        · rw [skip_in (by omega)] at h
          have h' : tSame (setAll a (ch.eraseIdx k.toNat)) b = false := by rw [Bool.eq_false_iff]; intro e; exact HLess.out (by omega) (tSame_iff.1 e)
          rw [h'] at h
          subst h
          exact .inr (.inr ⟨decide_eq_false (by omega), decide_eq_false (by omega), rfl⟩)
      clear ta tb TA TB HAp HLess HU HN
      go_wp2_with fail
      refine (tsame_eq TA1.out (HB.out.later B4.out) HSa).mono ?_
      rintro e w5 ⟨rfl, b⟩
      have B5 := Lib.hid (below2' B4.out b)
      have TB5 := Lib.hid (TB1.out.later b)
      clear b B4 TA1 TB1
      go_wp2_with fail
      refine (HC2.out (HA.out.later B5.out) (HA.out.later B5.out)).mono ?_
      rintro e w6 ⟨u6, rfl, hu6, b⟩
      obtain ⟨a6, c6, rfl, _⟩ := hu6.open'
      have B6 := Lib.hid (below2' B5.out b)
      have TB6 := Lib.hid (TB5.out.later b)
      clear b B5 TB5 hu6
      simp only [List.length_nil]
      rcases hfin with ⟨f1, rfl⟩ | ⟨f1, f2, rfl⟩ | ⟨f1, f2, rfl⟩
      all_goals
        go_wp2_with fail
        refine (tsame_eq TB6.out (HB.out.later B6.out) hr).mono ?_
        rintro e w7 ⟨rfl, b⟩
        have B7 := Lib.hid (below2' B6.out b)
        clear b B6 TB6
        go_wp2_with fail
        refine (live5 _).mono ?_
        rintro e w8 ⟨rfl, b⟩
        have B8 := Lib.hid (below2' B7.out b)
        clear b B7
        go_wp2_with fail
        go_ret
        exact ⟨rfl, B8.out⟩

theorem walkDigestChanges {w : World} (va : Value) (a : List Row) (ha : Tab w va a) (_ : ∀ r ∈ a, r.c.length ≤ maxLen ∧ r.v.st.length ≤ maxLen) (vb : Value) (b : List Row) (hb : Tab w vb b) (_ : ∀ r ∈ b, r.c.length ≤ maxLen ∧ r.v.st.length ≤ maxLen) (k : Int) (_ : (Lit.int .i64 k).wf = true) :
    Calls Try.prog 7 #[va, vb, .int .i64 k] w fun e w' => e = .returned (.bool true) ∧ Below w.heap.size w w' := by
  cases h1 : fewT a with
  | false => exact digestChanges_out ha hb k (.inl h1)
  | true =>
    cases h2 : fewT b with
    | false => exact digestChanges_out ha hb k (.inr (.inl ⟨h1, h2⟩))
    | true =>
      cases h3 : diMay a with
      | false => exact digestChanges_out ha hb k (.inr (.inr (.inl ⟨h1, h2, h3⟩)))
      | true =>
        cases h4 : diMay b with
        | false => exact digestChanges_out ha hb k (.inr (.inr (.inr ⟨h1, h2, h3, h4⟩)))
        | true => exact digestChanges_in ha hb k h1 h2 h3 h4

end Go.Proofs.Ytocjeehoghfnmaa
