/-
  LAYER 10: when two ranks, two slots are the same.
-/
import Derived.Test.YtkmbnpjnjlcjmaaHeaAbs
import Derived.Laws.StructEq
namespace Go.Proofs.Ytkmbnpjnjlcjmaa
open Go.RowKit

def rkSame (a b c a' b' c' : Int) : Bool := decide (a = a') && (decide (b = b') && decide (c = c'))

theorem rank_eqIn (T : TypeId) (hT : Try.prog.underlying T = some (.array 3 3)) (d : Nat) (a b c a' b' c' : Int) (w : World) :
    (Op.equalIn (d + 1 + 1) T (.agg #[.int .i64 a, .int .i64 b, .int .i64 c]) (.agg #[.int .i64 a', .int .i64 b', .int .i64 c'])).run Try.prog w = .ok (rkSame a b c a' b' c') w := by
  have u3 := Try.underlying3
  have a3 := Try.isAgg3
  have z3 := Try.sizeOf3
  rw [Op.equalIn]
  simp only [Sem.run_bind, run_underlying hT, Result.andThen_ok]
  go_simp
  simp only [show List.range' 0 3 = [0, 1, 2] from rfl, List.forIn_cons, List.forIn_nil]
  go_simp
  unfold rkSame
  by_cases h0 : a = a'
  · by_cases h1 : b = b'
    · by_cases h2 : c = c'
      · simp [h0, h1, h2]
      · simp [h0, h1, h2]
    · simp [h0, h1]
  · simp [h0]

def slSame (a b : Sl) : Bool := decide (a.id = b.id) && rkSame a.r0 a.r1 a.r2 b.r0 b.r1 b.r2

theorem slSame_iff {a b : Sl} : slSame a b = true ↔ a = b := by
  obtain ⟨a1, a2, a3, a4⟩ := a
  obtain ⟨b1, b2, b3, b4⟩ := b
  simp [slSame, rkSame]

theorem slot_eqIn (d : Nat) (i a b c i' a' b' c' : Int) (w : World) :
    (Op.equalIn (d + 1 + 1 + 1) 92 (.agg #[.int .i64 i, .int .i64 a, .int .i64 b, .int .i64 c]) (.agg #[.int .i64 i', .int .i64 a', .int .i64 b', .int .i64 c'])).run Try.prog w = .ok (slSame ⟨i, a, b, c⟩ ⟨i', a', b', c'⟩) w := by
  have hS : Try.prog.underlying 92 = some (.struct (Try.prog.fieldsOf 92)) := by kernel_rfl
  have hp : Try.prog.stoodInHeld 92 = false := by kernel_rfl
  have u3 := Try.underlying3
  have a3 := Try.isAgg3
  have z3 := Try.sizeOf3
  have a31 := Try.isAgg90
  have z31 := Try.sizeOf90
  have hv := fun w => rank_eqIn 90 Try.underlying90 d a b c a' b' c' w
  rw [run_equalIn_agg w (d + 1 + 1) 92 _ _ hS hp]
  simp only [Program.fieldsOf, Try.underlying92]
  clear hS hp
  go_simp
  unfold slSame
  by_cases hi : i = i'
  · subst hi
    cases rkSame a b c a' b' c' <;> simp
  · simp [hi]

theorem slot_eql (i a b c i' a' b' c' : Int) (w : World) :
    (binOp .eql 92 (.agg #[.int .i64 i, .int .i64 a, .int .i64 b, .int .i64 c]) (.agg #[.int .i64 i', .int .i64 a', .int .i64 b', .int .i64 c'])).run Try.prog w = .ok (.bool (slSame ⟨i, a, b, c⟩ ⟨i', a', b', c'⟩)) w := by
  rw [run_eql_struct, show (10000 : Nat) = 9997 + 1 + 1 + 1 from rfl, slot_eqIn 9997]
  rfl

theorem slot_neq (i a b c i' a' b' c' : Int) (w : World) :
    (binOp .neq 92 (.agg #[.int .i64 i, .int .i64 a, .int .i64 b, .int .i64 c]) (.agg #[.int .i64 i', .int .i64 a', .int .i64 b', .int .i64 c'])).run Try.prog w = .ok (.bool (!slSame ⟨i, a, b, c⟩ ⟨i', a', b', c'⟩)) w := by
  rw [run_neq_struct, show (10000 : Nat) = 9997 + 1 + 1 + 1 from rfl, slot_eqIn 9997]
  rfl

theorem rank_neq (a b c a' b' c' : Int) (w : World) :
    (binOp .neq 90 (.agg #[.int .i64 a, .int .i64 b, .int .i64 c]) (.agg #[.int .i64 a', .int .i64 b', .int .i64 c'])).run Try.prog w = .ok (.bool (!rkSame a b c a' b' c')) w := by
  rw [run_neq_struct, show (10000 : Nat) = 9998 + 1 + 1 from rfl, rank_eqIn 90 Try.underlying90 9998]
  rfl

theorem rank3_eql (a b c a' b' c' : Int) (w : World) :
    (binOp .eql 89 (.agg #[.int .i64 a, .int .i64 b, .int .i64 c]) (.agg #[.int .i64 a', .int .i64 b', .int .i64 c'])).run Try.prog w = .ok (.bool (rkSame a b c a' b' c')) w := by
  rw [run_eql_struct, show (10000 : Nat) = 9998 + 1 + 1 from rfl, rank_eqIn 89 Try.underlying89 9998]
  rfl

end Go.Proofs.Ytkmbnpjnjlcjmaa
