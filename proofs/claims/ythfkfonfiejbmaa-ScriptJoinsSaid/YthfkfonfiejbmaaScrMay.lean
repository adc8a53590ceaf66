/-
  LAYER 23: parts, mayOther, mayId, mayValue, May of the code; May of the document.
-/
import Derived.Test.YthfkfonfiejbmaaScrPure
import Derived.Test.YthfkfonfiejbmaaEvM
import Derived.Test.YthfkfonfiejbmaaValEq
import Derived.Test.YthfkfonfiejbmaaValPut
import Derived.Test.YthfkfonfiejbmaaIdIs
import Derived.Test.YthfkfonfiejbmaaIdFold
import Derived.Test.YthfkfonfiejbmaaIdRef
namespace Go.Proofs.Ythfkfonfiejbmaa
open Go.RowKit

/-- The numbers that 'parts' tells. -/
def IsHas (h : Int) : Prop := h = 0 ∨ h = 1 ∨ h = 2 ∨ h = 6

theorem scHas_is (k : Int) : IsHas (scHas k) := by
  unfold scHas IsHas
  split
  · simp
  · split
    · simp
    · split <;> simp

set_option maxHeartbeats 800000 in
set_option maxRecDepth 100000 in
theorem parts_any (k : Int) (w : World) :
    Calls Try.prog 37 #[.int .i64 k] w fun e w' => e = .returned (.int .i64 (scHas k)) ∧ w = w' := by
  by_cases hk : 1 ≤ k ∧ k ≤ 8
  · have : k = 1 ∨ k = 2 ∨ k = 3 ∨ k = 4 ∨ k = 5 ∨ k = 6 ∨ k = 7 ∨ k = 8 := by omega
    clear hk
    rcases this with rfl | rfl | rfl | rfl | rfl | rfl | rfl | rfl
    all_goals
      go_enter Try.func37, Try.ntmps37
      go_wp2_with fail
      go_ret
      exact ⟨rfl, rfl⟩
  · have hs : scHas k = 0 := by unfold scHas; rw [if_neg (by omega), if_neg (by omega), if_neg (by omega)]
    have HS := Lib.hid hs
    have t1 : ((k : Int) == 1) = false := by simp; omega
    have t2 : ((k : Int) == 2) = false := by simp; omega
    have t3 : ((k : Int) == 3) = false := by simp; omega
    have t4 : ((k : Int) == 4) = false := by simp; omega
    have t5 : ((k : Int) == 5) = false := by simp; omega
    have t6 : ((k : Int) == 6) = false := by simp; omega
    have t7 : ((k : Int) == 7) = false := by simp; omega
    have t8 : ((k : Int) == 8) = false := by simp; omega
    clear hs hk
    go_enter Try.func37, Try.ntmps37
    go_wp2_with fail
    go_ret
    exact ⟨by rw [HS.out]; rfl, rfl⟩

theorem parts_eq (k : Int) {h : Int} (hh : Hid (scHas k = h)) (w : World) :
    Calls Try.prog 37 #[.int .i64 k] w fun e w' => e = .returned (.int .i64 h) ∧ w = w' := by
  have := parts_any k w
  rwa [hh.out] at this

theorem and_lits : bits .and .i64 0 1 = 0 ∧ bits .and .i64 1 1 = 1 ∧ bits .and .i64 2 1 = 0 ∧ bits .and .i64 6 1 = 0 ∧ bits .and .i64 0 2 = 0 ∧ bits .and .i64 1 2 = 0 ∧ bits .and .i64 2 2 = 2 ∧ bits .and .i64 6 2 = 2 ∧ bits .and .i64 0 4 = 0 ∧ bits .and .i64 1 4 = 0 ∧ bits .and .i64 2 4 = 0 ∧ bits .and .i64 6 4 = 4 := by decide

/-- What mayOther, mayId, mayValue tell, by the bits. -/
def hasOther (h : Int) (o : List UInt8) : Bool := if h = 1 then idIs o else decide (o = [])
def hasId (h id : Int) : Bool := if h = 2 ∨ h = 6 then decide (0 ≤ id ∧ id < 4) else decide (id = 0)
def hasValue (h : Int) (v : Val) : Bool := if h = 6 then vaMay v else vaEq v Val.zero

set_option maxHeartbeats 800000 in
set_option maxRecDepth 100000 in
theorem mayOther_any (h : Int) (hh : IsHas h) (o : List UInt8) (ho : o.length ≤ 4294967296) {r : Bool} (hr : Hid (hasOther h o = r)) (w : World) :
    Calls Try.prog 39 #[.int .i64 h, .string ⟨o.toArray⟩] w fun e w' => e = .returned (.bool r) ∧ Below w.heap.size w w' := by
  obtain ⟨a1, a2, a3, a4, _⟩ := and_lits
  have hr := hr.out
  rcases hh with rfl | rfl | rfl | rfl
  case inr.inl =>
    have HR : Hid (idIs o = r) := Lib.hid hr
    clear hr
    go_enter Try.func39, Try.ntmps39
    go_wp2_with fail
    refine (is_eq o ho HR _).mono ?_
    rintro e w1 ⟨rfl, b1⟩
    go_wp2_with fail
    go_ret
    exact ⟨rfl, b1⟩
  all_goals
    have hr2 : decide (o = []) = r := hr
    by_cases h0 : o = []
    · subst h0
      obtain rfl : true = r := by rw [← hr2]; rfl
      go_enter Try.func39, Try.ntmps39
      go_wp2_with fail
      go_ret
      exact ⟨rfl, Below.refl _ _⟩
    · obtain rfl : false = r := by rw [← hr2]; simp [h0]
      obtain ⟨b, l, rfl⟩ : ∃ b l, o = b :: l := by
        cases o with
        | nil => exact absurd rfl h0
        | cons b l => exact ⟨b, l, rfl⟩
      clear h0 hr hr2
      go_enter Try.func39, Try.ntmps39
      go_wp2_with fail
      go_ret
      exact ⟨rfl, Below.refl _ _⟩

set_option maxHeartbeats 800000 in
set_option maxRecDepth 100000 in
theorem mayId_any (h : Int) (hh : IsHas h) (id : Int) {r : Bool} (hr : Hid (hasId h id = r)) (w : World) :
    Calls Try.prog 40 #[.int .i64 h, .int .i64 id] w fun e w' => e = .returned (.bool r) ∧ Below w.heap.size w w' := by
  obtain ⟨_, _, _, _, a1, a2, a3, a4, _⟩ := and_lits
  have hr := hr.out
  rcases hh with rfl | rfl | rfl | rfl
  case inl | inr.inl =>
    have hr2 : (id == 0) = r := by rw [← hr]; unfold hasId; by_cases h : id = 0 <;> simp [h]
    clear hr
    go_enter Try.func40, Try.ntmps40
    go_wp2_with fail
    go_ret
    exact ⟨rfl, Below.refl _ _⟩
  all_goals
    have hr2 : decide (0 ≤ id ∧ id < 4) = r := hr
    clear hr
    by_cases h0 : 0 ≤ id
    · by_cases h4 : id < 4
      · obtain rfl : true = r := by rw [← hr2]; simp [h0, h4]
        clear hr2
        go_enter Try.func40, Try.ntmps40
        go_wp2_with fail
        go_ret
        exact ⟨rfl, Below.refl _ _⟩
      · obtain rfl : false = r := by rw [← hr2]; simp [h4]
        have h4' : decide (id < 4) = false := by rw [decide_eq_false_iff_not]; exact h4
        clear hr2 h4
        go_enter Try.func40, Try.ntmps40
        go_wp2_with fail
        go_ret
        exact ⟨rfl, Below.refl _ _⟩
    · obtain rfl : false = r := by rw [← hr2]; simp [h0]
      have h0' : decide (0 ≤ id) = false := by rw [decide_eq_false_iff_not]; exact h0
      clear hr2 h0
      go_enter Try.func40, Try.ntmps40
      go_wp2_with fail
      go_ret
      exact ⟨rfl, Below.refl _ _⟩

set_option maxHeartbeats 800000 in
set_option maxRecDepth 100000 in
theorem mayValue_any (h : Int) (hh : IsHas h) (a b c : Int) (st : List UInt8) (ho : st.length ≤ 4294967296) {r : Bool} (hr : Hid (hasValue h ⟨a, b, c, st⟩ = r)) (w : World) :
    Calls Try.prog 41 #[.int .i64 h, .agg #[.int .i64 a, .int .i64 b, .int .i64 c, .string ⟨st.toArray⟩]] w fun e w' => e = .returned (.bool r) ∧ Below w.heap.size w w' := by
  obtain ⟨_, _, _, _, _, _, _, _, a1, a2, a3, a4⟩ := and_lits
  have hr := hr.out
  have HB := Lib.hid (bl_newZ w (.cells #[.int .i64 a, .int .i64 b, .int .i64 c, .string ⟨st.toArray⟩] 24))
  rcases hh with rfl | rfl | rfl | rfl
  case inr.inr.inr =>
    have HR : Hid (vaMay ⟨a, b, c, st⟩ = r) := Lib.hid hr
    clear hr
    go_enter Try.func41, Try.ntmps41
    go_wp2_with fail
    refine (may_eq a b c st ho HR _).mono ?_
    rintro e w1 ⟨rfl, b1⟩
    go_wp2_with fail
    go_ret
    exact ⟨rfl, below2Z HB.out b1⟩
  all_goals
    have HR : Hid (vaEq ⟨a, b, c, st⟩ Val.zero = r) := Lib.hid hr
    have heq : ∀ w, (binOp .eql 24 (.agg #[.int .i64 a, .int .i64 b, .int .i64 c, .string ⟨st.toArray⟩]) (.agg #[.int .i64 0, .int .i64 0, .int .i64 0, .string ⟨#[]⟩])).run Try.prog w = .ok (.bool r) w := fun w => by rw [← HR.out]; exact val_eql a b c 0 0 0 st [] w
    have hgd : Try.prog.eqGuardType Try.prog.depth 24 = false := by kernel_rfl
    clear hr
    go_enter Try.func41, Try.ntmps41
    go_wp2_with fail
    go_ret
    exact ⟨rfl, HB.out⟩

theorem scMay_has (k : Int) (u o st : List UInt8) (id a b c : Int) : scMay ⟨k, u, o, id, ⟨a, b, c, st⟩⟩ = (decide (¬ scHas k = 0) && (idIs u && (hasOther (scHas k) o && (hasId (scHas k) id && hasValue (scHas k) ⟨a, b, c, st⟩)))) := by
  unfold scMay oOk iOk vOk hasOther hasId hasValue scHas
  simp only
  by_cases h6 : 1 ≤ k ∧ k ≤ 6
  · have h8 : 1 ≤ k ∧ k ≤ 8 := by omega
    have h7 : ¬ k = 7 := by omega
    have h88 : ¬ k = 8 := by omega
    simp [h6, h8, h7, h88]
  · by_cases h7 : k = 7
    · subst h7; simp
    · by_cases h8 : k = 8
      · subst h8; simp
      · have h9 : ¬ (1 ≤ k ∧ k ≤ 8) := by omega
        have hz : (if 1 ≤ k ∧ k ≤ 6 then (1 : Int) else if k = 7 then 6 else if k = 8 then 2 else 0) = 0 := by rw [if_neg h6, if_neg h7, if_neg h8]
        rw [hz, decide_eq_false h9]
        simp

set_option maxHeartbeats 1600000 in
set_option maxRecDepth 100000 in
theorem scmay_any (k : Int) (u o st : List UInt8) (id a b c : Int) (hs : evShort ⟨k, u, o, id, ⟨a, b, c, st⟩⟩) {r : Bool} (hr : Hid (scMay ⟨k, u, o, id, ⟨a, b, c, st⟩⟩ = r)) (w : World) :
    Calls Try.prog 19 #[.agg #[.int .i64 k, .string ⟨u.toArray⟩, .string ⟨o.toArray⟩, .int .i64 id, .int .i64 a, .int .i64 b, .int .i64 c, .string ⟨st.toArray⟩]] w fun e w' => e = .returned (.bool r) ∧ Below w.heap.size w w' := by
  obtain ⟨s1, s2, s3⟩ := hs
  simp only at s1 s2 s3
  have hr := hr.out
  rw [scMay_has] at hr
  have hh := scHas_is k
  have HB := Lib.hid (bl_newZ w (.cells #[.int .i64 k, .string ⟨u.toArray⟩, .string ⟨o.toArray⟩, .int .i64 id, .int .i64 a, .int .i64 b, .int .i64 c, .string ⟨st.toArray⟩] 26))
  obtain ⟨h, hk⟩ : ∃ h, scHas k = h := ⟨_, rfl⟩
  rw [hk] at hr hh
  have HK := Lib.hid hk
  clear hk
  by_cases h0 : h = 0
  · subst h0
    obtain rfl : false = r := by rw [← hr]; rfl
    clear hr hh
    go_enter Try.func19, Try.ntmps19
    go_wp2_with fail
    refine (parts_eq k HK _).mono ?_
    rintro e w1 ⟨rfl, rfl⟩
    go_wp2_with fail
    go_ret
    exact ⟨rfl, HB.out⟩
  have t0 : ((h : Int) != 0) = true := by simp [h0]
  rw [decide_eq_true h0, Bool.true_and] at hr
  obtain ⟨qu, hqu⟩ : ∃ q, idIs u = q := ⟨_, rfl⟩
  obtain ⟨qo, hqo⟩ : ∃ q, hasOther h o = q := ⟨_, rfl⟩
  obtain ⟨qi, hqi⟩ : ∃ q, hasId h id = q := ⟨_, rfl⟩
  obtain ⟨qv, hqv⟩ : ∃ q, hasValue h ⟨a, b, c, st⟩ = q := ⟨_, rfl⟩
  rw [hqu, hqo, hqi, hqv] at hr
  have HU := Lib.hid hqu
  have HO := Lib.hid hqo
  have HI := Lib.hid hqi
  have HV := Lib.hid hqv
  have HH := Lib.hid hh
  clear hqu hqo hqi hqv hh h0
  cases qu with
  | false =>
    obtain rfl : false = r := by rw [← hr]; rfl
    clear hr
    go_enter Try.func19, Try.ntmps19
    go_wp2_with fail
    refine (parts_eq k HK _).mono ?_
    rintro e w1 ⟨rfl, rfl⟩
    go_wp2_with fail
    refine (is_eq u s1 HU _).mono ?_
    rintro e w1 ⟨rfl, b1⟩
    have HB1 := Lib.hid (below2Z HB.out b1)
    clear b1
    go_wp2_with fail
    go_ret
    exact ⟨rfl, HB1.out⟩
  | true =>
  rw [Bool.true_and] at hr
  cases qo with
  | false =>
    obtain rfl : false = r := by rw [← hr]; rfl
    clear hr
    go_enter Try.func19, Try.ntmps19
    go_wp2_with fail
    refine (parts_eq k HK _).mono ?_
    rintro e w1 ⟨rfl, rfl⟩
    have HC := Lib.hid (cellsAt_made (w := w) (cs := #[.int .i64 k, .string ⟨u.toArray⟩, .string ⟨o.toArray⟩, .int .i64 id, .int .i64 a, .int .i64 b, .int .i64 c, .string ⟨st.toArray⟩]) (vs := evVals ⟨k, u, o, id, ⟨a, b, c, st⟩⟩) rfl 26 rfl)
    go_wp2_with fail
    refine (is_eq u s1 HU _).mono ?_
    rintro e w1 ⟨rfl, b1⟩
    have HB1 := Lib.hid (below2Z HB.out b1)
    obtain ⟨m0, m1, m2, m3, m4, m5, m6, m7⟩ := eightAt (HC.out.later b1)
    clear b1
    go_wp2_with fail
    refine (mayOther_any h HH.out o s2 HO _).mono ?_
    rintro e w2 ⟨rfl, b2⟩
    have HB2 := Lib.hid (below2Z HB1.out b2)
    clear b2
    go_wp2_with fail
    go_ret
    exact ⟨rfl, HB2.out⟩
  | true =>
  rw [Bool.true_and] at hr
  have HC := Lib.hid (cellsAt_made (w := w) (cs := #[.int .i64 k, .string ⟨u.toArray⟩, .string ⟨o.toArray⟩, .int .i64 id, .int .i64 a, .int .i64 b, .int .i64 c, .string ⟨st.toArray⟩]) (vs := evVals ⟨k, u, o, id, ⟨a, b, c, st⟩⟩) rfl 26 rfl)
  cases qi with
  | false =>
    obtain rfl : false = r := by rw [← hr]; rfl
    clear hr
    go_enter Try.func19, Try.ntmps19
    go_wp2_with fail
    refine (parts_eq k HK _).mono ?_
    rintro e w1 ⟨rfl, rfl⟩
    go_wp2_with fail
    refine (is_eq u s1 HU _).mono ?_
    rintro e w1 ⟨rfl, b1⟩
    have HB1 := Lib.hid (below2Z HB.out b1)
    have HC1 := Lib.hid (HC.out.later b1)
    obtain ⟨m0, m1, m2, m3, m4, m5, m6, m7⟩ := eightAt HC1.out
    clear b1
    go_wp2_with fail
    refine (mayOther_any h HH.out o s2 HO _).mono ?_
    rintro e w2 ⟨rfl, b2⟩
    have HB2 := Lib.hid (below2Z HB1.out b2)
    have HC2 := Lib.hid (HC1.out.later b2)
    clear b2 m0 m1 m2 m3 m4 m5 m6 m7
    obtain ⟨m0, m1, m2, m3, m4, m5, m6, m7⟩ := eightAt HC2.out
    go_wp2_with fail
    refine (mayId_any h HH.out id HI _).mono ?_
    rintro e w3 ⟨rfl, b3⟩
    have HB3 := Lib.hid (below2Z HB2.out b3)
    clear b3
    go_wp2_with fail
    go_ret
    exact ⟨rfl, HB3.out⟩
  | true =>
    rw [Bool.true_and] at hr
    subst hr
    go_enter Try.func19, Try.ntmps19
    go_wp2_with fail
    refine (parts_eq k HK _).mono ?_
    rintro e w1 ⟨rfl, rfl⟩
    go_wp2_with fail
    refine (is_eq u s1 HU _).mono ?_
    rintro e w1 ⟨rfl, b1⟩
    have HB1 := Lib.hid (below2Z HB.out b1)
    have HC1 := Lib.hid (HC.out.later b1)
    obtain ⟨m0, m1, m2, m3, m4, m5, m6, m7⟩ := eightAt HC1.out
    clear b1
    go_wp2_with fail
    refine (mayOther_any h HH.out o s2 HO _).mono ?_
    rintro e w2 ⟨rfl, b2⟩
    have HB2 := Lib.hid (below2Z HB1.out b2)
    have HC2 := Lib.hid (HC1.out.later b2)
    clear b2 m0 m1 m2 m3 m4 m5 m6 m7
    obtain ⟨m0, m1, m2, m3, m4, m5, m6, m7⟩ := eightAt HC2.out
    go_wp2_with fail
    refine (mayId_any h HH.out id HI _).mono ?_
    rintro e w3 ⟨rfl, b3⟩
    have HB3 := Lib.hid (below2Z HB2.out b3)
    have HC3 := Lib.hid (HC2.out.later b3)
    clear b3 m0 m1 m2 m3 m4 m5 m6 m7
    obtain ⟨m0, m1, m2, m3, m4, m5, m6, m7⟩ := eightAt HC3.out
    go_wp2_with fail
    refine (mayValue_any h HH.out a b c st s3 HV _).mono ?_
    rintro e w4 ⟨rfl, b4⟩
    have HB4 := Lib.hid (below2Z HB3.out b4)
    clear b4
    go_wp2_with fail
    go_ret
    exact ⟨rfl, HB4.out⟩

end Go.Proofs.Ythfkfonfiejbmaa
