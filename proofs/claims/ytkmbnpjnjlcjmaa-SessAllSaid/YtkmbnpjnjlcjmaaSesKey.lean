/-
  LAYER 9: the key of a session; whether one stands ahead; whether one may be: the code's, and the document's.
-/
import Derived.Test.YtkmbnpjnjlcjmaaSesRow
import Derived.Test.YtkmbnpjnjlcjmaaSesPure
import Derived.Test.YtkmbnpjnjlcjmaaIdRef
import Derived.Test.YtkmbnpjnjlcjmaaValMay
namespace Go.Proofs.Ytkmbnpjnjlcjmaa
open Go.RowKit

set_option maxHeartbeats 800000 in
set_option maxRecDepth 100000 in
theorem keyOf_any (u st : List UInt8) (id a b c : Int) (w : World) :
    Calls Try.prog 52 #[.agg #[.string ⟨u.toArray⟩, .int .i64 id, .int .i64 a, .int .i64 b, .int .i64 c, .string ⟨st.toArray⟩]] w fun e w' => e = .returned (.agg #[.string ⟨u.toArray⟩, .int .i64 id]) ∧ Below w.heap.size w w' := by
  go_enter Try.func52, Try.ntmps52
  go_wp2_with fail
  refine bodyPost_ret (v := .agg #[.string ⟨u.toArray⟩, .int .i64 id]) (by simp [results, Try.results52, go_sem]) rfl ⟨rfl, ?_⟩
  repeat (first | exact Below.refl _ _ | refine Below.setCell ?_ (by first | (simp; done) | (simp; omega)) _ | refine Below.alloc ?_ (by first | (simp; done) | (simp; omega)) _)

set_option maxHeartbeats 800000 in
set_option maxRecDepth 100000 in
theorem isAhead_any (u u' : List UInt8) (i i' : Int) {r : Bool} (h : Hid (seLt ⟨u, i, Val.zero⟩ ⟨u', i', Val.zero⟩ = r)) (w : World) :
    Calls Try.prog 51 #[.agg #[.string ⟨u.toArray⟩, .int .i64 i], .agg #[.string ⟨u'.toArray⟩, .int .i64 i']] w fun e w' => e = .returned (.bool r) ∧ Below w.heap.size w w' := by
  have B0 : Hid (Below w.heap.size w ((w.alloc (.cells #[.string ⟨u.toArray⟩, .int .i64 i] 74)).alloc (.cells #[.string ⟨u'.toArray⟩, .int .i64 i'] 74))) := Lib.hid (((Below.refl _ _).alloc (Nat.le_refl _) _).alloc (by simp) _)
  by_cases hu : u = u'
  · subst hu
    have hr : decide (i < i') = r := by
      rw [← h.out]
      unfold seLt
      simp [idLess_irrefl]
    clear h
    go_enter Try.func51, Try.ntmps51
    go_wp2_with fail
    go_ret
    exact ⟨rfl, B0.out⟩
  · have t1 : (u != u') = true := by rw [bne_iff_ne]; exact hu
    have t2 : (u == u') = false := by rw [beq_eq_false_iff_ne]; exact hu
    have HL : Hid (idLess u u' = r) := by
      show _ = _
      rw [← h.out]
      unfold seLt
      simp [hu]
    clear h hu
    go_enter Try.func51, Try.ntmps51
    go_wp2_with fail
    refine (less_eq u u' HL _).mono ?_
    rintro e w1 ⟨rfl, b⟩
    have B1 := Lib.hid (below2Z B0.out b)
    clear b
    go_wp2_with fail
    go_ret
    exact ⟨rfl, B1.out⟩

/-- What a session may be, part by part. -/
theorem seOne_cases (u st : List UInt8) (id a b c : Int) :
    (idIs u = false ∧ seOne ⟨u, id, ⟨a, b, c, st⟩⟩ = false) ∨ (idIs u = true ∧ id < 0 ∧ seOne ⟨u, id, ⟨a, b, c, st⟩⟩ = false) ∨ (idIs u = true ∧ 0 ≤ id ∧ 4 ≤ id ∧ seOne ⟨u, id, ⟨a, b, c, st⟩⟩ = false) ∨
    (idIs u = true ∧ 0 ≤ id ∧ id < 4 ∧ seOne ⟨u, id, ⟨a, b, c, st⟩⟩ = vaMay ⟨a, b, c, st⟩) := by
  unfold seOne
  cases hu : idIs u with
  | false => exact .inl ⟨rfl, by simp⟩
  | true =>
    by_cases h0 : 0 ≤ id
    · by_cases h4 : id < 4
      · exact .inr (.inr (.inr ⟨rfl, h0, h4, by simp [h0, h4]⟩))
      · exact .inr (.inr (.inl ⟨rfl, h0, by omega, by simp [h4]⟩))
    · exact .inr (.inl ⟨rfl, by omega, by simp [h0]⟩)

set_option maxHeartbeats 1600000 in
set_option maxRecDepth 100000 in
theorem mayBe_any (u st : List UInt8) (id a b c : Int) (hu : u.length ≤ 4294967296) (hst : st.length ≤ 4294967296) {r : Bool} (h : Hid (seOne ⟨u, id, ⟨a, b, c, st⟩⟩ = r)) (w : World) :
    Calls Try.prog 50 #[.agg #[.string ⟨u.toArray⟩, .int .i64 id, .int .i64 a, .int .i64 b, .int .i64 c, .string ⟨st.toArray⟩]] w fun e w' => e = .returned (.bool r) ∧ Below w.heap.size w w' := by
  have B0 := Lib.hid (bl_newZ w (.cells #[.string ⟨u.toArray⟩, .int .i64 id, .int .i64 a, .int .i64 b, .int .i64 c, .string ⟨st.toArray⟩] 34))
  have HC := Lib.hid (cellsAt_made (w := w) (cs := #[.string ⟨u.toArray⟩, .int .i64 id, .int .i64 a, .int .i64 b, .int .i64 c, .string ⟨st.toArray⟩]) (vs := sesVals ⟨u, id, ⟨a, b, c, st⟩⟩) rfl 34 rfl)
  rcases seOne_cases u st id a b c with ⟨h1, h2⟩ | ⟨h1, h3, h2⟩ | ⟨h1, h3, h4, h2⟩ | ⟨h1, h3, h4, h2⟩
  · have hI := Lib.hid (is_any u hu)
    rw [h1] at hI
    rw [h.out] at h2
    subst h2
    clear h h1
    go_enter Try.func50, Try.ntmps50
    go_wp2_with fail
    refine (hI.out _).mono ?_
    rintro e w1 ⟨rfl, b⟩
    have B1 := Lib.hid (below2Z B0.out b)
    obtain ⟨c0, c1, c2, c3, c4, c5⟩ := cells6 (HC.out.later b)
    simp only [Nat.zero_add] at c0 c1 c2 c3 c4 c5
    clear b
    go_wp2_with fail
    go_ret
    exact ⟨rfl, B1.out⟩
  · have hI := Lib.hid (is_any u hu)
    rw [h1] at hI
    rw [h.out] at h2
    subst h2
    have t1 : decide (0 ≤ id) = false := by simpa using h3
    clear h h1
    go_enter Try.func50, Try.ntmps50
    go_wp2_with fail
    refine (hI.out _).mono ?_
    rintro e w1 ⟨rfl, b⟩
    have B1 := Lib.hid (below2Z B0.out b)
    obtain ⟨c0, c1, c2, c3, c4, c5⟩ := cells6 (HC.out.later b)
    simp only [Nat.zero_add] at c0 c1 c2 c3 c4 c5
    clear b
    go_wp2_with fail
    go_ret
    exact ⟨rfl, B1.out⟩
  · have hI := Lib.hid (is_any u hu)
    rw [h1] at hI
    rw [h.out] at h2
    subst h2
    have t1 : decide (0 ≤ id) = true := by simpa using h3
    have t2 : decide (id < 4) = false := by simpa using h4
    clear h h1
    go_enter Try.func50, Try.ntmps50
    go_wp2_with fail
    refine (hI.out _).mono ?_
    rintro e w1 ⟨rfl, b⟩
    have B1 := Lib.hid (below2Z B0.out b)
    obtain ⟨c0, c1, c2, c3, c4, c5⟩ := cells6 (HC.out.later b)
    simp only [Nat.zero_add] at c0 c1 c2 c3 c4 c5
    clear b
    go_wp2_with fail
    go_ret
    exact ⟨rfl, B1.out⟩
  · have hI := Lib.hid (is_any u hu)
    rw [h1] at hI
    rw [h.out] at h2
    have hV := Lib.hid (may_any a b c st hst)
    rw [← h2] at hV
    have t1 : decide (0 ≤ id) = true := by simpa using h3
    have t2 : decide (id < 4) = true := by simpa using h4
    clear h h1 h2
    go_enter Try.func50, Try.ntmps50
    go_wp2_with fail
    refine (hI.out _).mono ?_
    rintro e w1 ⟨rfl, b⟩
    have B1 := Lib.hid (below2Z B0.out b)
    obtain ⟨c0, c1, c2, c3, c4, c5⟩ := cells6 (HC.out.later b)
    simp only [Nat.zero_add] at c0 c1 c2 c3 c4 c5
    clear b
    go_wp2_with fail
    refine (hV.out _).mono ?_
    rintro e w2 ⟨rfl, b⟩
    have B2 := Lib.hid (below2Z B1.out b)
    clear b
    go_wp2_with fail
    go_ret
    exact ⟨rfl, B2.out⟩

end Go.Proofs.Ytkmbnpjnjlcjmaa
