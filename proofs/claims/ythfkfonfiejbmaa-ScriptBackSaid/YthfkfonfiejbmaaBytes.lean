/-
  A TEXT TURNED INTO A NEW ROW OF BYTES: what is known of the world behind it. Over any program.
-/
import Derived.Test.YthfkfonfiejbmaaKit
import Derived.Lib.ConvBytes
namespace Go.Proofs.Ythfkfonfiejbmaa
open Go.RowKit

theorem bytesWorld_below (w : World) (e : TypeId) (s : ByteArray) : Below w.heap.size w (Lib.bytesWorld w e s) :=
  ⟨by simp [Lib.bytesWorld, World.freeze, World.alloc, World.drew, -World.alloc_eq, -World.drew_eq], by simp [Lib.bytesWorld, World.freeze, World.alloc, World.drew, -World.alloc_eq, -World.drew_eq],
    by simp [Lib.bytesWorld, World.freeze, World.alloc, World.drew, -World.alloc_eq, -World.drew_eq], by rw [Lib.bytesWorld_size]; omega, fun k hk => Lib.bytesWorld_at_old w e s k hk⟩

theorem bytesWorld_frozen (w : World) (e : TypeId) (s : ByteArray) (j : Nat) (hj : j < s.size) : (Lib.bytesWorld w e s).frozen? ⟨w.heap.size, j, none⟩ = false := by
  have h : s.size ≤ (Lib.bytesCells w e s).size := by
    unfold Lib.bytesCells
    rw [Array.size_append, Array.size_map]
    exact Nat.le_add_right _ _
  simp only [World.frozen?, Lib.bytesWorld_at_new]
  simp only [Bool.and_eq_false_iff, decide_eq_false_iff_not]
  exact .inl (by omega)

/-- The row that it made, as the list of the text's bytes. -/
theorem bytesWorld_list (w : World) (e : TypeId) (l : List UInt8) (j : Nat) (hj : j < l.length) : (Lib.bytesWorld w e ⟨l.toArray⟩).cell? ⟨w.heap.size, j, none⟩ = some (.int .u8 (l.getD j 0).toNat) := by
  have := Lib.bytesWorld_cell w e ⟨l.toArray⟩ j (by rw [size_bytes]; exact hj)
  simpa using this

end Go.Proofs.Ythfkfonfiejbmaa
