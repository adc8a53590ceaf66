/-
  THE CONTRACTS OF subs.Act AND OF THE DOCUMENT'S Act, whatever is done.
-/
import Derived.Test.YtkmbnpjnjlcjmaaSubDo1
import Derived.Test.YtkmbnpjnjlcjmaaSubDo2
import Derived.Test.YtkmbnpjnjlcjmaaSubDo3
import Derived.Test.YtkmbnpjnjlcjmaaSubDo4
import Derived.Test.YtkmbnpjnjlcjmaaSubDo5
import Derived.Test.YtkmbnpjnjlcjmaaSubDo6
namespace Go.Proofs.Ytkmbnpjnjlcjmaa
open Go.RowKit

theorem suDo_shape (a b : It) (k : Int) : ∃ x1 x2 x3 x4 x5 y1 y2 y3 y4 y5 er, suDo a b k = (⟨x1, x2, x3, x4, x5⟩, ⟨y1, y2, y3, y4, y5⟩, er) := by
  obtain ⟨⟨x1, x2, x3, x4, x5⟩, ⟨y1, y2, y3, y4, y5⟩, er⟩ := suDo a b k
  exact ⟨x1, x2, x3, x4, x5, y1, y2, y3, y4, y5, er, rfl⟩

theorem suDo_err {a b : It} {k : Int} {x y : It} {er : Nat} (hm : suMay a b = true) (h1 : 1 ≤ k) (h6 : k ≤ 6) (h : suDo a b k = (x, y, er)) (he : er ≠ 0) : x = a ∧ y = b :=
  suAct_err (k := k) (e := er) (by unfold suAct; rw [if_pos ⟨hm, h1, h6⟩]; exact h) he

theorem suAct_in {a b : It} {k : Int} (hm : suMay a b = true) (h1 : 1 ≤ k) (h6 : k ≤ 6) : suAct a b k = suDo a b k := by
  unfold suAct
  rw [if_pos ⟨hm, h1, h6⟩]

theorem suAct_low {a b : It} {k : Int} (h : k < 1 ∨ 6 < k) : suAct a b k = (a, b, 1) := by
  unfold suAct
  rw [if_neg (fun h' => by omega)]

theorem suAct_not {a b : It} {k : Int} (h : suMay a b = false) : suAct a b k = (a, b, 1) := by
  unfold suAct
  rw [if_neg (fun h' => by rw [h] at h'; simp at h')]

theorem sact_any (a1 a2 a3 a4 a5 b1 b2 b3 b4 b5 : Bool) (k : Int) (hk : (Lit.int .i64 k).wf = true) (w : World) :
    Calls Try.prog 34 #[.agg #[.bool a1, .bool a2, .bool a3, .bool a4, .bool a5], .agg #[.bool b1, .bool b2, .bool b3, .bool b4, .bool b5], .int .i64 k] w fun e w' => e = .returned (actE (suAct ⟨a1, a2, a3, a4, a5⟩ ⟨b1, b2, b3, b4, b5⟩ k)) ∧ Below w.heap.size w w' := by
  by_cases ho : k < 1 ∨ 6 < k
  · rw [suAct_low ho]
    exact sact_out a1 a2 a3 a4 a5 b1 b2 b3 b4 b5 k hk ho w
  · have hr : k = 1 ∨ k = 2 ∨ k = 3 ∨ k = 4 ∨ k = 5 ∨ k = 6 := by omega
    cases hm : suMay ⟨a1, a2, a3, a4, a5⟩ ⟨b1, b2, b3, b4, b5⟩ with
    | false =>
      rw [suAct_not hm]
      exact sact_not a1 a2 a3 a4 a5 b1 b2 b3 b4 b5 k hk (by show _ = _; rcases hr with rfl | rfl | rfl | rfl | rfl | rfl <;> rfl) hm w
    | true =>
      rw [suAct_in hm (by omega) (by omega)]
      obtain ⟨x1, x2, x3, x4, x5, y1, y2, y3, y4, y5, er, hd⟩ := suDo_shape ⟨a1, a2, a3, a4, a5⟩ ⟨b1, b2, b3, b4, b5⟩ k
      rw [hd]
      by_cases he : er = 0
      · subst he
        rcases hr with rfl | rfl | rfl | rfl | rfl | rfl
        · exact sact_ok1 a1 a2 a3 a4 a5 b1 b2 b3 b4 b5 hm hd w
        · exact sact_ok2 a1 a2 a3 a4 a5 b1 b2 b3 b4 b5 hm hd w
        · exact sact_ok3 a1 a2 a3 a4 a5 b1 b2 b3 b4 b5 hm hd w
        · exact sact_ok4 a1 a2 a3 a4 a5 b1 b2 b3 b4 b5 hm hd w
        · exact sact_ok5 a1 a2 a3 a4 a5 b1 b2 b3 b4 b5 hm hd w
        · exact sact_ok6 a1 a2 a3 a4 a5 b1 b2 b3 b4 b5 hm hd w
      · obtain ⟨e1, e2⟩ := suDo_err hm (by omega) (by omega) hd he
        rw [e1, e2]
        rcases hr with rfl | rfl | rfl | rfl | rfl | rfl
        · exact sact_err1 a1 a2 a3 a4 a5 b1 b2 b3 b4 b5 he hm hd w
        · exact sact_err2 a1 a2 a3 a4 a5 b1 b2 b3 b4 b5 he hm hd w
        · exact sact_err3 a1 a2 a3 a4 a5 b1 b2 b3 b4 b5 he hm hd w
        · exact sact_err4 a1 a2 a3 a4 a5 b1 b2 b3 b4 b5 he hm hd w
        · exact sact_err5 a1 a2 a3 a4 a5 b1 b2 b3 b4 b5 he hm hd w
        · exact sact_err6 a1 a2 a3 a4 a5 b1 b2 b3 b4 b5 he hm hd w

/-- With the answer in letters. -/
theorem sact_eq {a b x y : It} {k : Int} (hk : (Lit.int .i64 k).wf = true) {er : Nat} (h : Hid (suAct a b k = (x, y, er))) (w : World) :
    Calls Try.prog 34 #[.agg #[.bool a.to, .bool a.fr, .bool a.out, .bool a.inn, .bool a.bl], .agg #[.bool b.to, .bool b.fr, .bool b.out, .bool b.inn, .bool b.bl], .int .i64 k] w fun e w' => e = .returned (.tuple #[.agg #[.bool x.to, .bool x.fr, .bool x.out, .bool x.inn, .bool x.bl], .agg #[.bool y.to, .bool y.fr, .bool y.out, .bool y.inn, .bool y.bl], .int .i64 er]) ∧ Below w.heap.size w w' := by
  have g := sact_any a.to a.fr a.out a.inn a.bl b.to b.fr b.out b.inn b.bl k hk w
  rw [show suAct ⟨a.to, a.fr, a.out, a.inn, a.bl⟩ ⟨b.to, b.fr, b.out, b.inn, b.bl⟩ k = (x, y, er) from h.out] at g
  exact g

end Go.Proofs.Ytkmbnpjnjlcjmaa
