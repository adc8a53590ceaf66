/-
  THE CONTRACT OF live OF LAYER 3's STATEMENTS: it returns true.
-/
import Derived.Test.YtkmbnpjnjlcjmaaIdRef
import Derived.Test.YtkmbnpjnjlcjmaaIdMerge
import Derived.Test.YtkmbnpjnjlcjmaaIdDoc
namespace Go.Proofs.Ytkmbnpjnjlcjmaa
open Go.RowKit

/-- A row of texts that is built with what it holds. -/
theorem texts_made (w : World) (T : TypeId) (B : Nat) (hB : B = w.heap.size) (ls : List (List UInt8)) (hl : ls.length ≤ 100) (A : Array Value) (hA : A = (ls.map encS).toArray) (n : Nat) (hn : n = ls.length) :
    Texts (w.alloc (.cells A T)) (.slice (some ⟨B, 0, none⟩) n n) ls := by
  subst hB hA hn
  refine ⟨_, _, rfl, Nat.le_refl _, by unfold maxLen; omega, (fun e => by cases e), .inr ⟨_, _, rfl, by simp, fun i hi => ?_⟩⟩
  rw [World.cell?_alloc_at _ _ _ _ rfl, Nat.zero_add]
  simp [List.getD, List.getElem?_eq_getElem hi]

theorem i1 : Hid (idFold [65, 110, 110, 45, 50] = ([97, 110, 110, 45, 50], true)) := by show _ = _; decide +kernel
theorem i2 : Hid (idFold [50, 97, 110, 110] = ([], false)) := by show _ = _; decide +kernel
theorem i3 : Hid (idPut [98, 111, 98] = ([3, 98, 111, 98], true)) := by show _ = _; decide +kernel
theorem i4 : Hid (idPut [66, 111, 98] = ([], false)) := by show _ = _; decide +kernel
theorem i5 : Hid (idTake [120, 3, 98, 111, 98] 1 = ([98, 111, 98], 5, 0)) := by show _ = _; kernel_rfl
theorem i6 : Hid (idTake [3, 66, 111, 98] 0 = ([], 0, 3)) := by show _ = _; kernel_rfl
theorem i7 : Hid (idTake [3, 98, 111] 0 = ([], 0, 2)) := by show _ = _; kernel_rfl
theorem i8 : Hid (idIs [97] = true) := by show _ = _; decide +kernel
theorem i9 : Hid (idIs [] = false) := by show _ = _; decide +kernel
theorem i10 : Hid (idLess [122] [97, 97] = true) := by show _ = _; decide +kernel
theorem i11 : Hid (idLess [98] [97] = false) := by show _ = _; decide +kernel
theorem i12 : mrg ([[98, 98], [97]] ++ [[97], [99]]) = [[97], [99], [98, 98]] := by decide +kernel

end Go.Proofs.Ytkmbnpjnjlcjmaa
