/-
  LAYER 9: sessions in memory; when two are the same; the key of one.
-/
import Derived.Test.YtkmbnpjnjlcjmaaProg
import Derived.Test.YtkmbnpjnjlcjmaaAid
import Derived.Test.YtkmbnpjnjlcjmaaSesBase
import Derived.Laws.StructEq
import Derived.BigRegion
import Derived.Deep.QuietTactic
import Derived.BigQuiet
namespace Go.Proofs.Ytkmbnpjnjlcjmaa
open Go.RowKit

def sesVals (s : Ses) : List Value := [.string ⟨s.u.toArray⟩, .int .i64 s.id, .int .i64 s.v.sh, .int .i64 s.v.pr, .int .i64 s.v.si, .string ⟨s.v.st.toArray⟩]

/-- A session by value. -/
def sesAgg (s : Ses) : Value := .agg #[.string ⟨s.u.toArray⟩, .int .i64 s.id, .int .i64 s.v.sh, .int .i64 s.v.pr, .int .i64 s.v.si, .string ⟨s.v.st.toArray⟩]

theorem sesOK : RowOK Try.prog sesVals 6 Ses.zero 34 22 (.agg #[.string ⟨#[]⟩, .int .i64 0, .int .i64 0, .int .i64 0, .int .i64 0, .string ⟨#[]⟩]) 64 where
  len _ := rfl
  one a u hu := by
    simp only [sesVals, List.mem_cons, List.not_mem_nil, or_false] at hu
    rcases hu with rfl | rfl | rfl | rfl | rfl | rfl <;> rfl
  pos := by decide
  small := by decide
  under := Try.underlying22
  info := by kernel_rfl
  zvals := rfl
  fits := by decide

abbrev Sess (w : World) (v : Value) (l : List Ses) : Prop := RdS sesVals 6 Ses.zero w v l
abbrev OwnSes (w : World) (base : Nat) (v : Value) (l : List Ses) : Prop := OwnS sesVals 6 34 w base v l

/-- Six cells of a block. -/
theorem cells6 {w : World} {b o : Nat} {s : Ses} (h : CellsAt w b o (sesVals s)) :
    w.cell? ⟨b, o, none⟩ = some (.string ⟨s.u.toArray⟩) ∧ w.cell? ⟨b, o + 1, none⟩ = some (.int .i64 s.id) ∧ w.cell? ⟨b, o + 2, none⟩ = some (.int .i64 s.v.sh) ∧ w.cell? ⟨b, o + 3, none⟩ = some (.int .i64 s.v.pr) ∧ w.cell? ⟨b, o + 4, none⟩ = some (.int .i64 s.v.si) ∧ w.cell? ⟨b, o + 5, none⟩ = some (.string ⟨s.v.st.toArray⟩) :=
  ⟨h 0 _ rfl, h 1 _ rfl, h 2 _ rfl, h 3 _ rfl, h 4 _ rfl, h 5 _ rfl⟩

/-- The same through a draw and new blocks. -/
theorem cells6_regrown {w : World} {b o : Nat} {s : Ses} (h : CellsAt w b o (sesVals s)) :
    (∀ d os, (Sort.grow (redrawn w d) os).cell? ⟨b, o, none⟩ = some (.string ⟨s.u.toArray⟩)) ∧ (∀ d os, (Sort.grow (redrawn w d) os).cell? ⟨b, o + 1, none⟩ = some (.int .i64 s.id)) ∧ (∀ d os, (Sort.grow (redrawn w d) os).cell? ⟨b, o + 2, none⟩ = some (.int .i64 s.v.sh)) ∧
    (∀ d os, (Sort.grow (redrawn w d) os).cell? ⟨b, o + 3, none⟩ = some (.int .i64 s.v.pr)) ∧ (∀ d os, (Sort.grow (redrawn w d) os).cell? ⟨b, o + 4, none⟩ = some (.int .i64 s.v.si)) ∧ (∀ d os, (Sort.grow (redrawn w d) os).cell? ⟨b, o + 5, none⟩ = some (.string ⟨s.v.st.toArray⟩)) := by
  obtain ⟨h0, h1, h2, h3, h4, h5⟩ := cells6 h
  exact ⟨cell_regrown h0, cell_regrown h1, cell_regrown h2, cell_regrown h3, cell_regrown h4, cell_regrown h5⟩

/-! ### '==' -/

theorem val_eqInS (d : Nat) (a b c a' b' c' : Int) (s s' : List UInt8) (w : World) :
    (Op.equalIn (d + 1 + 1) 32 (.agg #[.int .i64 a, .int .i64 b, .int .i64 c, .string ⟨s.toArray⟩]) (.agg #[.int .i64 a', .int .i64 b', .int .i64 c', .string ⟨s'.toArray⟩])).run Try.prog w = .ok (valSame ⟨a, b, c, s⟩ ⟨a', b', c', s'⟩) w := by
  have hS : Try.prog.underlying 32 = some (.struct (Try.prog.fieldsOf 32)) := by kernel_rfl
  have hp : Try.prog.stoodInHeld 32 = false := by kernel_rfl
  have u3 := Try.underlying3
  have u9 := Try.underlying9
  have a3 := Try.isAgg3
  have z3 := Try.sizeOf3
  have a9 := Try.isAgg9
  have z9 := Try.sizeOf9
  rw [run_equalIn_agg w (d + 1) 32 _ _ hS hp]
  simp only [Program.fieldsOf, Try.underlying32]
  go_simp
  unfold valSame
  by_cases h1 : a = a' <;> by_cases h2 : b = b' <;> by_cases h3 : c = c' <;> by_cases h4 : s = s' <;> simp [h1, h2, h3, h4]

theorem ses_eqIn (d : Nat) (k k' : List UInt8) (i a b c i' a' b' c' : Int) (s s' : List UInt8) (w : World) :
    (Op.equalIn (d + 1 + 1 + 1) 34 (.agg #[.string ⟨k.toArray⟩, .int .i64 i, .int .i64 a, .int .i64 b, .int .i64 c, .string ⟨s.toArray⟩]) (.agg #[.string ⟨k'.toArray⟩, .int .i64 i', .int .i64 a', .int .i64 b', .int .i64 c', .string ⟨s'.toArray⟩])).run Try.prog w = .ok (sesSame ⟨k, i, ⟨a, b, c, s⟩⟩ ⟨k', i', ⟨a', b', c', s'⟩⟩) w := by
  have hS : Try.prog.underlying 34 = some (.struct (Try.prog.fieldsOf 34)) := by kernel_rfl
  have hp : Try.prog.stoodInHeld 34 = false := by kernel_rfl
  have u3 := Try.underlying3
  have a3 := Try.isAgg3
  have z3 := Try.sizeOf3
  have u9 := Try.underlying9
  have a9 := Try.isAgg9
  have z9 := Try.sizeOf9
  have a35 := Try.isAgg32
  have z35 := Try.sizeOf32
  have hv := fun w => val_eqInS d a b c a' b' c' s s' w
  rw [run_equalIn_agg w (d + 1 + 1) 34 _ _ hS hp]
  simp only [Program.fieldsOf, Try.underlying34]
  clear hS hp
  go_simp
  unfold sesSame
  by_cases hk : k = k'
  · subst hk
    by_cases hi : i = i'
    · subst hi
      cases valSame ⟨a, b, c, s⟩ ⟨a', b', c', s'⟩ <;> simp
    · simp [hi]
  · simp [hk]

theorem ses_eql (k k' : List UInt8) (i a b c i' a' b' c' : Int) (s s' : List UInt8) (w : World) :
    (binOp .eql 34 (.agg #[.string ⟨k.toArray⟩, .int .i64 i, .int .i64 a, .int .i64 b, .int .i64 c, .string ⟨s.toArray⟩]) (.agg #[.string ⟨k'.toArray⟩, .int .i64 i', .int .i64 a', .int .i64 b', .int .i64 c', .string ⟨s'.toArray⟩])).run Try.prog w = .ok (.bool (sesSame ⟨k, i, ⟨a, b, c, s⟩⟩ ⟨k', i', ⟨a', b', c', s'⟩⟩)) w := by
  rw [run_eql_struct, show (10000 : Nat) = 9997 + 1 + 1 + 1 from rfl, ses_eqIn 9997]
  rfl

theorem ses_neq (k k' : List UInt8) (i a b c i' a' b' c' : Int) (s s' : List UInt8) (w : World) :
    (binOp .neq 34 (.agg #[.string ⟨k.toArray⟩, .int .i64 i, .int .i64 a, .int .i64 b, .int .i64 c, .string ⟨s.toArray⟩]) (.agg #[.string ⟨k'.toArray⟩, .int .i64 i', .int .i64 a', .int .i64 b', .int .i64 c', .string ⟨s'.toArray⟩])).run Try.prog w = .ok (.bool (!sesSame ⟨k, i, ⟨a, b, c, s⟩⟩ ⟨k', i', ⟨a', b', c', s'⟩⟩)) w := by
  rw [run_neq_struct, show (10000 : Nat) = 9997 + 1 + 1 + 1 from rfl, ses_eqIn 9997]
  rfl

theorem key_eqIn (d : Nat) (k k' : List UInt8) (i i' : Int) (w : World) :
    (Op.equalIn (d + 1 + 1) 74 (.agg #[.string ⟨k.toArray⟩, .int .i64 i]) (.agg #[.string ⟨k'.toArray⟩, .int .i64 i'])).run Try.prog w = .ok (decide (k = k') && decide (i = i')) w := by
  have hS : Try.prog.underlying 74 = some (.struct (Try.prog.fieldsOf 74)) := by kernel_rfl
  have hp : Try.prog.stoodInHeld 74 = false := by kernel_rfl
  have u3 := Try.underlying3
  have u9 := Try.underlying9
  have a3 := Try.isAgg3
  have z3 := Try.sizeOf3
  have a9 := Try.isAgg9
  have z9 := Try.sizeOf9
  rw [run_equalIn_agg w (d + 1) 74 _ _ hS hp]
  simp only [Program.fieldsOf, Try.underlying74]
  go_simp
  by_cases h1 : k = k' <;> by_cases h2 : i = i' <;> simp [h1, h2]

theorem key_eql (k k' : List UInt8) (i i' : Int) (w : World) :
    (binOp .eql 74 (.agg #[.string ⟨k.toArray⟩, .int .i64 i]) (.agg #[.string ⟨k'.toArray⟩, .int .i64 i'])).run Try.prog w = .ok (.bool (decide (k = k') && decide (i = i'))) w := by
  rw [run_eql_struct, show (10000 : Nat) = 9998 + 1 + 1 from rfl, key_eqIn 9998]
  rfl

end Go.Proofs.Ytkmbnpjnjlcjmaa
