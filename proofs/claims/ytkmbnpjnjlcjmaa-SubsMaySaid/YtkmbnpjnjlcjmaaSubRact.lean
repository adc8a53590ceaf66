/-
  THE CONTRACT OF THE DOCUMENT'S Act.
-/
import Derived.Test.YtkmbnpjnjlcjmaaSubTell
import Derived.RegionTactic
import Derived.ChangeAlike
namespace Go.Proofs.Ytkmbnpjnjlcjmaa
open Go.RowKit

/-- Both items and an error, as they are told. -/
def actE (r : It × It × Nat) : Value := .tuple #[.agg #[.bool r.1.to, .bool r.1.fr, .bool r.1.out, .bool r.1.inn, .bool r.1.bl], .agg #[.bool r.2.1.to, .bool r.2.1.fr, .bool r.2.1.out, .bool r.2.1.inn, .bool r.2.1.bl], .int .i64 r.2.2]

theorem smay_eq (a1 a2 a3 a4 a5 b1 b2 b3 b4 b5 : Bool) {r : Bool} (h : Hid (suMay ⟨a1, a2, a3, a4, a5⟩ ⟨b1, b2, b3, b4, b5⟩ = r)) (w : World) :
    Calls Try.prog 35 #[.agg #[.bool a1, .bool a2, .bool a3, .bool a4, .bool a5], .agg #[.bool b1, .bool b2, .bool b3, .bool b4, .bool b5]] w fun e w' => e = .returned (.bool r) ∧ (w.alloc (.cells #[.bool a1, .bool a2, .bool a3, .bool a4, .bool a5] 49)).alloc (.cells #[.bool b1, .bool b2, .bool b3, .bool b4, .bool b5] 49) = w' := by
  have g := smay_any a1 a2 a3 a4 a5 b1 b2 b3 b4 b5 w
  rw [h.out] at g
  exact g.mono fun _ _ ⟨he, hw⟩ => ⟨he, hw.symm⟩

end Go.Proofs.Ytkmbnpjnjlcjmaa
