/-
  '==' OF TWO VALUES.
-/
import Derived.Test.YthfkfonfiejbmaaValPure
import Derived.Test.YthfkfonfiejbmaaKit
import Derived.Test.YthfkfonfiejbmaaProg
import Derived.Laws.StructEq
namespace Go.Proofs.Ythfkfonfiejbmaa
open Go.RowKit

theorem toList_bytes (l : List UInt8) : (⟨l.toArray⟩ : ByteArray).toList = l := by
  rw [ByteArray.toList_eq]

theorem val_eql (a b c a' b' c' : Int) (s s' : List UInt8) (w : World) :
    (binOp .eql 24 (.agg #[.int .i64 a, .int .i64 b, .int .i64 c, .string ⟨s.toArray⟩]) (.agg #[.int .i64 a', .int .i64 b', .int .i64 c', .string ⟨s'.toArray⟩])).run Try.prog w = .ok (.bool (vaEq ⟨a, b, c, s⟩ ⟨a', b', c', s'⟩)) w := by
  have hS : Try.prog.underlying 24 = some (.struct (Try.prog.fieldsOf 24)) := by kernel_rfl
  have hp : Try.prog.stoodInHeld 24 = false := by kernel_rfl
  have u3 := Try.underlying3
  have u9 := Try.underlying9
  have a3 := Try.isAgg3
  have z3 := Try.sizeOf3
  have a9 := Try.isAgg9
  have z9 := Try.sizeOf9
  rw [run_eql_struct, show (10000 : Nat) = 9999 + 1 from rfl, run_equalIn_agg w 9999 24 _ _ hS hp]
  simp only [Program.fieldsOf, Try.underlying24]
  go_simp
  unfold vaEq
  by_cases h1 : a = a' <;> by_cases h2 : b = b' <;> by_cases h3 : c = c' <;> by_cases h4 : s = s' <;> simp [h1, h2, h3, h4]

end Go.Proofs.Ythfkfonfiejbmaa
