/-
  '==' OF TWO EVENTS.
-/
import Derived.Test.YthfkfonfiejbmaaEvM
import Derived.Laws.StructEq
namespace Go.Proofs.Ythfkfonfiejbmaa
open Go.RowKit

/-- Are two events the same? -/
def evEq (x y : Ev) : Bool := (x.k == y.k && (x.u == y.u && (x.o == y.o && (x.id == y.id && vaEq x.v y.v))))

theorem evEq_iff {x y : Ev} : evEq x y = true ↔ x = y := by
  obtain ⟨a, b, c, d, e⟩ := x
  obtain ⟨a', b', c', d', e'⟩ := y
  simp [evEq, vaEq_iff]

theorem evEq_self (x : Ev) : evEq x x = true := evEq_iff.2 rfl

theorem valE_eqIn (d : Nat) (a b c a' b' c' : Int) (s s' : List UInt8) (w : World) :
    (Op.equalIn (d + 1 + 1) 24 (.agg #[.int .i64 a, .int .i64 b, .int .i64 c, .string ⟨s.toArray⟩]) (.agg #[.int .i64 a', .int .i64 b', .int .i64 c', .string ⟨s'.toArray⟩])).run Try.prog w = .ok (vaEq ⟨a, b, c, s⟩ ⟨a', b', c', s'⟩) w := by
  have hS : Try.prog.underlying 24 = some (.struct (Try.prog.fieldsOf 24)) := by kernel_rfl
  have hp : Try.prog.stoodInHeld 24 = false := by kernel_rfl
  have u3 := Try.underlying3
  have u9 := Try.underlying9
  have a3 := Try.isAgg3
  have z3 := Try.sizeOf3
  have a9 := Try.isAgg9
  have z9 := Try.sizeOf9
  rw [run_equalIn_agg w (d + 1) 24 _ _ hS hp]
  simp only [Program.fieldsOf, Try.underlying24]
  clear hS hp
  go_simp
  unfold vaEq
  by_cases h1 : a = a' <;> by_cases h2 : b = b' <;> by_cases h3 : c = c' <;> by_cases h4 : s = s' <;> simp [h1, h2, h3, h4]

theorem ev_eqIn (d : Nat) (k k' id id' : Int) (u u' o o' : List UInt8) (a b c a' b' c' : Int) (s s' : List UInt8) (w : World) :
    (Op.equalIn (d + 1 + 1 + 1) 26 (.agg #[.int .i64 k, .string ⟨u.toArray⟩, .string ⟨o.toArray⟩, .int .i64 id, .int .i64 a, .int .i64 b, .int .i64 c, .string ⟨s.toArray⟩]) (.agg #[.int .i64 k', .string ⟨u'.toArray⟩, .string ⟨o'.toArray⟩, .int .i64 id', .int .i64 a', .int .i64 b', .int .i64 c', .string ⟨s'.toArray⟩])).run Try.prog w = .ok (evEq ⟨k, u, o, id, ⟨a, b, c, s⟩⟩ ⟨k', u', o', id', ⟨a', b', c', s'⟩⟩) w := by
  have hS : Try.prog.underlying 26 = some (.struct (Try.prog.fieldsOf 26)) := by kernel_rfl
  have hp : Try.prog.stoodInHeld 26 = false := by kernel_rfl
  have u3 := Try.underlying3
  have u9 := Try.underlying9
  have a3 := Try.isAgg3
  have z3 := Try.sizeOf3
  have a9 := Try.isAgg9
  have z9 := Try.sizeOf9
  have a35 := Try.isAgg24
  have z35 := Try.sizeOf24
  have hv := fun w => valE_eqIn d a b c a' b' c' s s' w
  rw [run_equalIn_agg w (d + 1 + 1) 26 _ _ hS hp]
  simp only [Program.fieldsOf, Try.underlying26]
  clear hS hp
  go_simp
  unfold evEq
  simp only
  generalize vaEq ⟨a, b, c, s⟩ ⟨a', b', c', s'⟩ = q
  by_cases h1 : k = k' <;> by_cases h2 : u = u' <;> by_cases h3 : o = o' <;> by_cases h4 : id = id' <;> cases q <;> simp [h1, h2, h3, h4]

theorem ev_eql (k k' id id' : Int) (u u' o o' : List UInt8) (a b c a' b' c' : Int) (s s' : List UInt8) (w : World) :
    (binOp .eql 26 (.agg #[.int .i64 k, .string ⟨u.toArray⟩, .string ⟨o.toArray⟩, .int .i64 id, .int .i64 a, .int .i64 b, .int .i64 c, .string ⟨s.toArray⟩]) (.agg #[.int .i64 k', .string ⟨u'.toArray⟩, .string ⟨o'.toArray⟩, .int .i64 id', .int .i64 a', .int .i64 b', .int .i64 c', .string ⟨s'.toArray⟩])).run Try.prog w = .ok (.bool (evEq ⟨k, u, o, id, ⟨a, b, c, s⟩⟩ ⟨k', u', o', id', ⟨a', b', c', s'⟩⟩)) w := by
  rw [run_eql_struct, show (10000 : Nat) = 9997 + 1 + 1 + 1 from rfl, ev_eqIn 9997]
  rfl

theorem ev_neq (k k' id id' : Int) (u u' o o' : List UInt8) (a b c a' b' c' : Int) (s s' : List UInt8) (w : World) :
    (binOp .neq 26 (.agg #[.int .i64 k, .string ⟨u.toArray⟩, .string ⟨o.toArray⟩, .int .i64 id, .int .i64 a, .int .i64 b, .int .i64 c, .string ⟨s.toArray⟩]) (.agg #[.int .i64 k', .string ⟨u'.toArray⟩, .string ⟨o'.toArray⟩, .int .i64 id', .int .i64 a', .int .i64 b', .int .i64 c', .string ⟨s'.toArray⟩])).run Try.prog w = .ok (.bool (!evEq ⟨k, u, o, id, ⟨a, b, c, s⟩⟩ ⟨k', u', o', id', ⟨a', b', c', s'⟩⟩)) w := by
  rw [run_neq_struct, show (10000 : Nat) = 9997 + 1 + 1 + 1 from rfl, ev_eqIn 9997]
  rfl

end Go.Proofs.Ythfkfonfiejbmaa
